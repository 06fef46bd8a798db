"""Runs of one hand alone."""

from keptmarks.bounds import MAX_STEPS
from keptmarks.errors import TooMany
from keptmarks.standings import has_ended, start
from keptmarks.steps import stepped


def alone(book, sheet, row, deeds):
    """Return what one hand alone is told for its deeds; raise TooMany if it needs too many steps."""
    answers, _ = run_alone(book, sheet, row, deeds)
    return answers


def run_alone(book, sheet, row, deeds):
    """Return what one hand alone is told for its deeds, and how often each formula's cell is worked out."""
    standing = start(sheet, row, (deeds,))
    answers = []
    works = [0] * len(sheet[1])
    steps = 0
    while not has_ended(standing):
        if steps == MAX_STEPS:
            raise TooMany(MAX_STEPS)
        kept = cell_kept_next(standing)
        if kept is not None:
            works[kept - sheet[0]] += 1
        standing, answer = stepped(book, sheet, standing, 0)
        steps += 1
        # A deed is done as soon as no task is left of it.
        if standing[3][0][1] == ():
            answers.append(answer)
    return tuple(answers), tuple(works)


def cell_kept_next(standing):
    """Return the cell for which the first hand's next step keeps a value, None if it keeps none."""
    _, tasks = standing[3][0]
    if tasks == () or tasks[-1][0] != "work":
        return None
    _, cell, left, _ = tasks[-1]
    return None if isinstance(left, tuple) else cell
