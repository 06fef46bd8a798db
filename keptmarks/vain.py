"""Which books work nothing out in vain, and runs in which the other ones do."""

from keptmarks.books import CHECK, PERHAPS, SURE, can_stand
from keptmarks.errors import Unfit
from keptmarks.onehand import safe_alone
from keptmarks.working import least_works, works

# For each book that is safe for one hand and works in vain, it does in one of these.
VAIN_RUNS = (
    # The input changes and changes back: a direct reader works by the mark of readers.
    ((1, ((0, (0, 1)),)), (0,), (("look", 1), ("set", 0, 1), ("set", 0, 0), ("look", 1))),
    # The cell between stays as it is: the one above it works by the mark of further.
    ((1, ((0, (0, 0)), (1, (0, 1)))), (0,), (("look", 2), ("set", 0, 1), ("look", 2))),
    # The cell below changes, is looked at, and changes back: the one above it works by the mark of change.
    ((1, ((0, (0, 1)), (1, (0, 1)))), (0,), (("look", 2), ("set", 0, 1), ("look", 1), ("set", 0, 0), ("look", 2))),
)


def no_vain(book):
    """Return whether each mark that can stand is checked by values."""
    for mark in can_stand(book):
        word = book[PERHAPS] if mark == 1 else book[SURE]
        if word != "check" or book[CHECK] != "values":
            return False
    return True


def vain_run(book):
    """Return None if a book works nothing in vain, otherwise a run in which it does; raise Unfit if it is not safe."""
    if not safe_alone(book):
        raise Unfit()
    if no_vain(book):
        return None
    for sheet, row, deeds in VAIN_RUNS[:-1]:
        if sum(works(book, sheet, row, deeds)) > sum(least_works(sheet, row, deeds)):
            return sheet, row, deeds
    return VAIN_RUNS[-1]
