"""How often cells are worked out, by a book and at the least."""

from keptmarks.aloneruns import run_alone
from keptmarks.asking import reads_by_values, true_values
from keptmarks.tuples import with_item


def works(book, sheet, row, deeds):
    """Return how often each formula's cell is worked out by a book; raise TooMany if too many steps are needed."""
    _, counts = run_alone(book, sheet, row, deeds)
    return counts


def least_works(sheet, row, deeds):
    """Return how often each formula's cell is asked with other true reads than when it counted last."""
    inputs, formulas = sheet
    counts = [0] * len(formulas)
    last = [None] * len(formulas)
    for deed in deeds:
        if deed[0] == "set":
            row = with_item(row, deed[1], deed[2])
            continue
        asked = asked_reads(sheet, row, deed[1])
        for cell in asked:
            spot = cell - inputs
            if asked[cell] != last[spot]:
                counts[spot] += 1
                last[spot] = asked[cell]
    return tuple(counts)


def asked_reads(sheet, row, cell):
    """Return the true reads of each formula's cell that is asked at a look at the cell, by the cells."""
    values = true_values(sheet, row)
    asked = {}
    waiting = [cell]
    while waiting:
        other = waiting.pop()
        if other >= sheet[0] and other not in asked:
            asked[other] = reads_by_values(sheet, values, other)
            waiting.extend([read for read, _ in asked[other]])
    return asked
