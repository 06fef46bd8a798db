"""Steps: what a book says, done one step at a time."""

from keptmarks.bounds import MAX_STEPS
from keptmarks.errors import TooMany, Unfit
from keptmarks.standings import can_step
from keptmarks.tasks import step_of_deed, step_of_task
from keptmarks.tuples import with_item


def step(book, sheet, standing, hand):
    """Return the standing behind the next step of a hand; raise Unfit if it can't do one."""
    behind, _ = stepped(book, sheet, standing, hand)
    return behind


def told(book, sheet, standing, hand):
    """Return what the next step of a hand tells, None if nothing; raise Unfit if it can't do one."""
    _, answer = stepped(book, sheet, standing, hand)
    return answer


def after(book, sheet, standing, order):
    """Return the standing behind the steps of hands in this order; raise TooMany or Unfit if they can't be done."""
    if len(order) > MAX_STEPS:
        raise TooMany(MAX_STEPS)
    for hand in order:
        standing, _ = stepped(book, sheet, standing, hand)
    return standing


def stepped(book, sheet, standing, hand):
    """Return the standing behind the next step of a hand, and what this step tells."""
    if not can_step(book, standing, hand):
        raise Unfit()
    values, cells, entered, hands = standing
    left, tasks = hands[hand]
    if tasks == ():
        behind = with_item(hands, hand, (left[1:], step_of_deed(values, left[0])))
        return (values, cells, entered, behind), None
    shared, tasks, answer = step_of_task(book, sheet, (values, cells, entered), hand, tasks)
    return shared + (with_item(hands, hand, (left, tasks)),), answer
