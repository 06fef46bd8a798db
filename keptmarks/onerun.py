"""Runs in which one hand alone is told what is not true."""

from keptmarks.aloneruns import alone
from keptmarks.asking import true_value
from keptmarks.deeds import is_program, is_row
from keptmarks.errors import TooMany
from keptmarks.onehand import safe_alone
from keptmarks.sheets import sheet_error
from keptmarks.tuples import with_item

COPY = (1, ((0, (0, 1)),))
COPIES = (1, ((0, (0, 1)), (1, (0, 1))))
# The cell 2 is the same for two of the three values of the cell 1, which it reads; the cell 3 is the cell 2.
STAIRS = (1, ((0, (0, 1, 2)), (1, (0, 1, 1)), (2, (0, 1))))
# The cell 3 reads the cell 2 only where the input 1 is 0; the cell 4 reads the cell 3 ahead of the cell 2.
TURNED = (2, ((0, (0, 1)), (1, ((2, (0, 1)), 0, 1)), (0, ((3, ((2, (0, 1)), 2)),))))


def losing_alone(book):
    """Return None if a book is safe for one hand, otherwise a run in which one hand is told wrongly in the end."""
    if safe_alone(book):
        return None
    runs = losing_runs()
    for run in runs[:-1]:
        if losing_alone_error(book, run) is None:
            return run
    return runs[-1]


def losing_alone_error(book, value):
    """Return None if value is a run in which one hand is told wrongly in the end, otherwise the first error."""
    if not isinstance(value, tuple) or len(value) != 3:
        return "form"
    sheet, row, deeds = value
    error = sheet_error(sheet)
    if error is not None:
        return "sheet", error
    if not is_row(sheet, row):
        return "row"
    if not is_program(sheet, deeds):
        return "deeds"
    if deeds == () or deeds[-1][0] == "set":
        return "last"
    try:
        answers = alone(book, sheet, row, deeds)
    except TooMany:
        return "steps"
    if answers[-1] == true_value(sheet, row_behind(row, deeds), deeds[-1][1]):
        return "true"
    return None


def row_behind(row, deeds):
    """Return what the inputs have behind deeds."""
    for deed in deeds:
        if deed[0] == "set":
            row = with_item(row, deed[1], deed[2])
    return row


def losing_runs():
    """Return runs of which each book that is not safe for one hand is told wrongly in one, shorter ones first."""
    return (
        # A direct reader is not marked, or has a mark that is answered or struck.
        (COPY, (0,), (("look", 1), ("set", 0, 1), ("look", 1))),
        # So is who reads what reads the input.
        (COPIES, (0,), (("look", 2), ("set", 0, 1), ("look", 2))),
        # The cell 2 has only the mark that the cell 1 gave when it changed, in a look of its own.
        (COPIES, (0,), (("look", 2), ("set", 0, 1), ("look", 1), ("look", 2))),
        # The cell 3 is not yet entered at the cell 2 when this one is marked; there the next spreading stops.
        (STAIRS, (1,), (("look", 2), ("set", 0, 2), ("look", 3), ("set", 0, 0), ("look", 3))),
        # The cell 2 is marked while it is looked after, and keeps the mark below the cell 3, which is clean then.
        (STAIRS, (1,), (
            ("look", 3), ("set", 0, 2), ("look", 1), ("set", 0, 1), ("look", 3), ("set", 0, 0), ("look", 3))),
        # The cell 3 is marked by the cell 2, where it is entered still, when the look has gone through it already.
        (TURNED, (0, 0), (
            ("look", 4), ("set", 1, 1), ("look", 4), ("set", 0, 1), ("look", 4), ("set", 1, 2), ("look", 4))),
    )
