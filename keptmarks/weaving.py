"""All weavings of small programs, gone through standing by standing."""

from keptmarks.bounds import MAX_WOVEN
from keptmarks.errors import TooMany
from keptmarks.standings import can_step, start
from keptmarks.steps import step


def woven(book, sheet, row, programs):
    """Return how many unlike standings come; raise TooMany if these are more than MAX_WOVEN."""
    standings, _ = weave(book, sheet, row, programs)
    return len(standings)


def how_many_orders(book, sheet, row, programs):
    """Return how many whole orders there are; raise TooMany as woven does."""
    _, following = weave(book, sheet, row, programs)
    ahead = [0] * len(following)
    for ways in following:
        for _, number in ways:
            ahead[number] += 1
    orders = [0] * len(following)
    orders[0] = 1
    whole = 0
    # A standing may be come to by orders of unlike lengths: it has its turn once all that lead to it are counted.
    ready = [0]
    while ready:
        at = ready.pop()
        if not following[at]:
            whole += orders[at]
        for _, number in following[at]:
            orders[number] += orders[at]
            ahead[number] -= 1
            if ahead[number] == 0:
                ready.append(number)
    return whole


def weave(book, sheet, row, programs):
    """Return all standings that come, and for each one the list of its ways on.

    A way on is a pair of the hand whose step it is and the number of the standing behind it. Standings are numbered in
    the order in which they are found: those that take fewer steps first, hands in order.
    """
    first = start(sheet, row, programs)
    standings = [first]
    numbers = {standing_key(first): 0}
    following = []
    while len(following) < len(standings):
        standing = standings[len(following)]
        ways = []
        for hand in range(len(programs)):
            if can_step(book, standing, hand):
                behind = step(book, sheet, standing, hand)
                key = standing_key(behind)
                if key not in numbers:
                    numbers[key] = len(standings)
                    standings.append(behind)
                ways.append((hand, numbers[key]))
        if len(standings) > MAX_WOVEN:
            raise TooMany(MAX_WOVEN)
        following.append(ways)
    return standings, following


def standing_key(standing):
    """Return what tells a standing from all others that come with it, in tuples that are not nested deep."""
    values, cells, entered, hands = standing
    short = [(len(left), tuple([task_key(task) for task in tasks])) for left, tasks in hands]
    return values, cells, entered, tuple(short)


def task_key(task):
    """Return a task without what is left of a formula: its cell and its reads tell that."""
    if task[0] in ("work", "ask", "enter"):
        return task[:2] + task[3:]
    return task
