"""One deed, done by one hand alone where nobody else has anything left to do."""

from keptmarks.aloneruns import cell_kept_next
from keptmarks.standings import has_ended
from keptmarks.steps import stepped


def do_deed(book, sheet, shared, deed):
    """Do a deed to its end.

    Return what is shared behind it (values, cells, entered), what it tells, and the list of the cells that were worked
    out, one by one.
    """
    return go_on(book, sheet, shared, (deed,), ())


def do_task(book, sheet, shared, task):
    """Do a task that no deed has put to its end; return as do_deed does."""
    return go_on(book, sheet, shared, (), (task,))


def go_on(book, sheet, shared, left, tasks):
    """Let one hand do all that it has left, however many steps it takes."""
    standing = shared + (((left, tasks),),)
    answer = None
    worked = []
    while not has_ended(standing):
        kept = cell_kept_next(standing)
        if kept is not None:
            worked.append(kept)
        standing, answer = stepped(book, sheet, standing, 0)
    return standing[:3], answer, worked
