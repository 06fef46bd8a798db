"""What is a sheet, and what is wrong with a value that is none."""

from keptmarks.bounds import MAX_DEEP, MAX_FORMULAS, MAX_INPUTS, MAX_PARTS, MAX_VALUE
from keptmarks.kinds import is_integer, is_number_to, is_pair_with_tuple

MAX_BRANCHES = 4


def sheet_error(value):
    """Return None if value is a sheet, otherwise the first error that applies."""
    if not is_pair_with_tuple(value):
        return "form"
    inputs, formulas = value
    if not is_number_to(inputs, MAX_INPUTS):
        return "inputs"
    if not 1 <= len(formulas) <= MAX_FORMULAS:
        return "many"
    for spot, formula in enumerate(formulas):
        error = formula_error(formula, inputs + spot)
        if error is not None:
            way, word = error
            return "formula", inputs + spot, way, word
    return None


def formula_error(value, cell):
    """Return None if value is a formula of the cell, otherwise (way, word) of the first wrong part."""
    # The last one is looked at next: so a pair comes ahead of its branches, and these come in order.
    waiting = [((), value)]
    ahead = 0
    while waiting:
        way, part = waiting.pop()
        word = part_error(part, cell, len(way), ahead)
        if word is not None:
            return way, word
        ahead += 1
        if isinstance(part, tuple):
            branches = part[1]
            for place in reversed(range(len(branches))):
                waiting.append((way + (place,), branches[place]))
    return None


def part_error(part, cell, deep, ahead):
    """Return the first word that applies to a part deep numbers down with so many parts ahead, or None."""
    if ahead >= MAX_PARTS:
        return "parts"
    if is_integer(part):
        return None if is_number_to(part, MAX_VALUE) else "value"
    if not is_pair_with_tuple(part):
        return "form"
    other, branches = part
    if not is_number_to(other, cell - 1):
        return "cell"
    if not 1 <= len(branches) <= MAX_BRANCHES:
        return "branches"
    if deep >= MAX_DEEP:
        return "deep"
    return None
