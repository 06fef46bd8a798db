"""Runs of one hand or two behind which something is told wrongly.

A plan is a tuple (sheet, row, programs, turns). A turn is a pair (hand, task): the hand does steps, one at least, until
this task is at work, or, where the task is None, until its deed is done.
"""

from keptmarks.losingjudge import losing_error
from keptmarks.safety import slip
from keptmarks.standings import start
from keptmarks.steps import step

COPY = (1, ((0, (0, 1)),))
COPIES = (1, ((0, (0, 1)), (1, (0, 1))))
# The cell 1 is the same for two of the values of the input.
STAIRS = (1, ((0, (0, 0, 1)), (1, (0, 1))))


def losing(book):
    """Return None if a book is safe, otherwise a losing run for it."""
    number = slip(book)
    if number is None:
        return None
    plans = plans_of(number)
    for plan in plans[:-1]:
        run = run_of(book, plan)
        if losing_error(book, run) is None:
            return run
    return run_of(book, plans[-1])


def run_of(book, plan):
    """Return the run of a plan by a book, each step of it told."""
    sheet, row, programs, turns = plan
    standing = start(sheet, row, programs)
    order = []
    for hand, task in turns:
        standing = step(book, sheet, standing, hand)
        order.append(hand)
        while task_at_work(standing, hand) != task:
            standing = step(book, sheet, standing, hand)
            order.append(hand)
    return sheet, row, programs, tuple(order)


def task_at_work(standing, hand):
    """Return the last task of a hand, None if it has none."""
    _, tasks = standing[3][hand]
    return tasks[-1] if tasks else None


def plans_of(number):
    """Return plans of which each book with this slip loses by one."""
    if number == 6:
        return (looked_at_ahead_of_store(),)
    if number == 7:
        return (stored_ahead_of_entering(),)
    if number == 8:
        return (elder_behind_newer(),)
    if number == 9:
        return (set_amid_work(), set_twice_amid_work())
    return plans_alone()


def plans_alone():
    """Return plans in which one hand looks, sets, and is told wrongly by its next look."""
    look, write, below = ("look", 2), ("set", 0, 1), ("look", 1)
    return (
        # A direct reader is not marked, or has a mark that is answered or struck.
        (COPY, (0,), ((below, write),), ((0, None),) * 2),
        # So is who reads what reads the input.
        (COPIES, (0,), ((look, write),), ((0, None),) * 2),
        # The cell 2 has only the mark that the cell 1 gave when it changed, in a look of its own.
        (COPIES, (0,), ((look, write, below),), ((0, None),) * 3),
    )


def looked_at_ahead_of_store():
    """Return a plan in which a cell is worked out between the marking of a write and its store."""
    return COPY, (0,), ((("set", 0, 1),), (("look", 1),)), ((0, ("write", 0, 1, 1)), (1, None), (0, None))


def stored_ahead_of_entering():
    """Return a plan in which an input is set when a cell has read it and is not yet entered there."""
    read = ("enter", 1, (0, (0, 1)), (), 0)
    return COPY, (0,), ((("look", 1),), (("set", 0, 1),)), ((0, read), (1, None), (0, None))


def elder_behind_newer():
    """Return a plan in which a hand keeps a value when another one has kept a newer one."""
    programs = ((("look", 1),), (("set", 0, 1), ("look", 1)))
    return COPY, (0,), programs, ((0, about_to_keep(0, 0)), (1, None), (1, None), (0, None))


def set_amid_work():
    """Return a plan in which a cell is marked when it is about to be kept."""
    return COPY, (0,), ((("look", 1),), (("set", 0, 1),)), ((0, about_to_keep(0, 0)), (1, None), (0, None))


def set_twice_amid_work():
    """Return a plan in which a cell keeps the mark of a first set, so that the marks of a second one stop there.

    At the second one the cell is worked out for another one, which is clean behind that.
    """
    programs = ((("look", 1), ("look", 2)), (("set", 0, 1), ("set", 0, 2)))
    turns = (
        (0, about_to_keep(0, 0)), (1, None), (0, None),
        (0, about_to_keep(1, 0)), (1, None), (0, None),
    )
    return STAIRS, (0,), programs, turns


def about_to_keep(read, value):
    """Return the task at which the cell 1 has read the input and will keep a value with the next step."""
    return "work", 1, value, ((0, read),)
