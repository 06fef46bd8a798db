"""Standings: what is kept, marked and entered amid a run, and what each hand has still to do."""

from keptmarks.books import HANDS

# What a standing has for a formula's cell that was never worked out.
NOTHING_KEPT = (None, 0, (), False, None)


def start(sheet, row, programs):
    """Return the first standing of programs on a sheet with this row."""
    inputs, formulas = sheet
    cells = (NOTHING_KEPT,) * len(formulas)
    entered = ((),) * (inputs + len(formulas))
    return row, cells, entered, tuple([(program, ()) for program in programs])


def has_ended(standing):
    """Return whether all hands have ended."""
    for left, tasks in standing[3]:
        if left or tasks:
            return False
    return True


def can_step(book, standing, hand):
    """Return whether a hand can do a step: it has neither ended, nor does it wait."""
    left, tasks = standing[3][hand]
    if not tasks:
        return left != ()
    return not waits(book, standing, hand, tasks[-1])


def kept_cells(standing):
    """Return the pairs (kept, mark) of the formulas' cells, in order."""
    return tuple([cell[:2] for cell in standing[1]])


def waits(book, standing, hand, task):
    """Return whether a hand's last task is a look at a cell that another hand holds."""
    if book[HANDS] == "any" or task[0] != "look":
        return False
    values, cells = standing[:2]
    spot = task[1] - len(values)
    if spot < 0:
        return False
    holder = cells[spot][4]
    return holder is not None and holder != hand
