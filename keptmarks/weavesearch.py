"""What is told wrongly behind weavings, and the first order that leads there."""

from keptmarks.asking import true_values
from keptmarks.onedeed import do_deed
from keptmarks.standings import has_ended
from keptmarks.weaving import weave


def wrongly_told(book, sheet, standing):
    """Return all cells, ascending, of which a look from a standing on, where all have ended, tells what is not true."""
    true = true_values(sheet, standing[0])
    wrong = []
    for cell, value in enumerate(true):
        _, answer, _ = do_deed(book, sheet, standing[:3], ("look", cell))
        if answer != value:
            wrong.append(cell)
    return tuple(wrong)


def may_lose(book, sheet, row, programs):
    """Return the first of the shortest whole orders behind which a cell is told wrongly, None if there is none.

    Raise TooMany if more standings come than may, whether there is such an order or not.
    """
    standings, following = weave(book, sheet, row, programs)
    # Standings are found by fewer steps first and hands in order: so the first one found is that of the first order.
    for number, standing in enumerate(standings):
        if has_ended(standing) and wrongly_told(book, sheet, standing) != ():
            return order_to(following, number)
    return None


def order_to(following, number):
    """Return the order by which a standing was found, from the ways on of each standing."""
    found = {}
    for at, ways in enumerate(following):
        for hand, behind in ways:
            if behind not in found:
                found[behind] = (at, hand)
    order = []
    while number != 0:
        number, hand = found[number]
        order.append(hand)
    return tuple(reversed(order))
