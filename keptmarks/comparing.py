"""Work compared: which of two quiet books works cells out more often than the other."""

from keptmarks.books import CHANGE, CHECK, FURTHER, MARKS, OLD, PERHAPS, READERS, STRIKE, SURE
from keptmarks.deeds import is_formula_cell, is_program, is_row
from keptmarks.errors import TooMany, Unfit
from keptmarks.onehand import safe_alone
from keptmarks.sheets import sheet_error
from keptmarks.working import works

# Of each situation a run in which its cell comes to it once, and to no other one.
RUNS = {
    "written": ((1, ((0, (0, 1)),)), (0,), (("look", 1), ("set", 0, 1), ("set", 0, 0), ("look", 1)), 1),
    "further": ((1, ((0, (0, 0)), (1, (0, 1)))), (0,), (("look", 2), ("set", 0, 1), ("look", 2)), 2),
    "both": (
        (1, ((0, (0, 0)), (0, ((1, (0, 1)), 1)))), (0,),
        (("look", 2), ("set", 0, 1), ("set", 0, 0), ("look", 2)), 2),
    "changed": (
        (1, ((0, (0, 1)), (1, (0, 1)))), (0,),
        (("look", 2), ("set", 0, 1), ("look", 1), ("set", 0, 0), ("look", 2)), 2),
    "every": (
        (1, ((0, (0, 1)), (0, ((1, (0, 1)), 1)))), (0,),
        (("look", 2), ("set", 0, 1), ("look", 1), ("set", 0, 0), ("look", 2)), 2),
}


def is_quiet(book):
    """Return whether a book is safe for one hand, and looks by it leave no marks at what they have gone through."""
    return safe_alone(book) and book[OLD] == "struck" and (book[CHANGE] == "none" or book[STRIKE] == "behind")


def hasty(book):
    """Return the names of the situations in which a book works in vain, in order; raise Unfit if it is not quiet."""
    if not is_quiet(book):
        raise Unfit()
    return tuple([name for name, mark in marks_of_situations(book) if works_at(book, mark)])


def never_more(one, other):
    """Return whether one book never works a cell out more often than the other; raise Unfit if one is not quiet."""
    return more_situation(one, other) is None


def more_run(one, other):
    """Return None if one book never works a cell out more often than the other, otherwise a run in which it does."""
    situation = more_situation(one, other)
    if situation is None:
        return None
    return RUNS[situation]


def more_error(one, other, value):
    """Return None if value is a run in which one book works its cell out more often, otherwise the first error."""
    if not is_quiet(one) or not is_quiet(other):
        raise Unfit()
    error = run_error(value)
    if error is not None:
        return error
    sheet, row, deeds, cell = value
    try:
        works_of_one = works(one, sheet, row, deeds)
        works_of_other = works(other, sheet, row, deeds)
    except TooMany:
        return "steps"
    spot = cell - sheet[0]
    return None if works_of_one[spot] > works_of_other[spot] else "work"


def marks_of_situations(book):
    """Return the pairs of a situation's name and the mark that a cell is given in it, in order."""
    readers, further, change = MARKS[book[READERS]], MARKS[book[FURTHER]], MARKS[book[CHANGE]]
    return (
        ("written", readers),
        ("further", further),
        ("both", max(readers, further)),
        ("changed", max(further, change)),
        ("every", max(readers, further, change)),
    )


def works_at(book, mark):
    """Return whether a look by a book works a cell with this mark out, though all that it read is as it was."""
    word = book[PERHAPS] if mark == 1 else book[SURE]
    return word == "work" or (mark == 2 and word == "check" and book[CHECK] == "mark")


def more_situation(one, other):
    """Return the first situation in which one book is hasty and the other one is not, None if there is none."""
    hasty_of_one = hasty(one)
    hasty_of_other = hasty(other)
    for name in hasty_of_one:
        if name not in hasty_of_other:
            return name
    return None


def run_error(value):
    """Return None if value is a quadruple of a sheet, a row, deeds and a formula's cell, otherwise the first error."""
    if not isinstance(value, tuple) or len(value) != 4:
        return "form"
    sheet, row, deeds, cell = value
    if sheet_error(sheet) is not None:
        return "sheet"
    if not is_row(sheet, row):
        return "row"
    if not is_program(sheet, deeds):
        return "deeds"
    return None if is_formula_cell(sheet, cell) else "cell"
