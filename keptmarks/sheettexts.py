"""The texts of sheets and formulas, written and read."""

from keptmarks.bounds import MAX_DEEP, MAX_FORMULAS, MAX_INPUTS, MAX_VALUE
from keptmarks.errors import BadText
from keptmarks.sheets import formula_error


def sheet_text(sheet):
    """Return the text of a sheet."""
    inputs, formulas = sheet
    lines = [inputs_line(inputs)]
    for spot, formula in enumerate(formulas):
        lines.append(line_head(inputs + spot) + formula_text(formula))
    return "\n".join(lines)


def read_sheet(value):
    """Return the sheet of which value is the text; raise BadText with the first wrong line if there is none."""
    if not isinstance(value, str):
        raise BadText(0)
    lines = value.split("\n")
    inputs = read_inputs(lines[0])
    if inputs is None:
        raise BadText(0)
    if len(lines) == 1:
        raise BadText(1)
    formulas = []
    for spot, line in enumerate(lines[1:]):
        if spot == MAX_FORMULAS:
            raise BadText(spot + 1)
        formula = read_line(line, inputs + spot)
        if formula is None:
            raise BadText(spot + 1)
        formulas.append(formula)
    return inputs, tuple(formulas)


def inputs_line(inputs):
    """Return the line that tells how many inputs there are."""
    return f"inputs {inputs}"


def line_head(cell):
    """Return what stands ahead of the formula in a formula cell's line."""
    return f"c{cell} = "


def pair_head(cell):
    """Return what stands ahead of the branches in the text of a pair that reads the cell."""
    return f"c{cell}("


def formula_text(formula):
    """Return the text of a formula."""
    if not isinstance(formula, tuple):
        return str(formula)
    cell, branches = formula
    return pair_head(cell) + ", ".join([formula_text(branch) for branch in branches]) + ")"


def read_inputs(line):
    """Return how many inputs a line tells, None if it does not tell it."""
    for inputs in range(MAX_INPUTS + 1):
        if line == inputs_line(inputs):
            return inputs
    return None


def read_line(line, cell):
    """Return the formula that a line has for the cell, None if it is no such line."""
    head = line_head(cell)
    if not line.startswith(head):
        return None
    return read_formula(line[len(head):], cell)


def read_formula(text, cell):
    """Return the formula of the cell of which text is the text, None if it is the text of none."""
    found = formula_at(text, 0, cell, MAX_DEEP)
    if found is None:
        return None
    formula, behind = found
    if behind != len(text) or formula_error(formula, cell) is not None:
        return None
    return formula


def formula_at(text, at, cell, deep):
    """Return the formula that stands at a place, at most so deep, and the place behind it; None if none does."""
    value = value_at(text, at)
    if value is not None:
        return value, at + len(str(value))
    other = pair_cell_at(text, at, cell)
    # A pair that is too deep is no formula anyway; thousands of brackets must not lead that far down.
    if other is None or deep == 0:
        return None
    found = branches_at(text, at + len(pair_head(other)), cell, deep - 1)
    if found is None:
        return None
    branches, behind = found
    return (other, branches), behind


def branches_at(text, at, cell, deep):
    """Return the branches that stand at a place, and the place behind their bracket; None if none do."""
    branches = []
    while True:
        found = formula_at(text, at, cell, deep)
        if found is None:
            return None
        branch, at = found
        branches.append(branch)
        if text.startswith(")", at):
            return tuple(branches), at + 1
        if not text.startswith(", ", at):
            return None
        at += 2


def value_at(text, at):
    """Return the value whose figure stands at a place, None if none does."""
    for value in range(MAX_VALUE + 1):
        if text.startswith(str(value), at):
            return value
    return None


def pair_cell_at(text, at, cell):
    """Return the cell ahead of the cell with which a pair begins at a place, None if none does."""
    for other in range(cell):
        if text.startswith(pair_head(other), at):
            return other
    return None
