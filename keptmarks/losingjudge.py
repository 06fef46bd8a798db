"""Losing runs: runs of a few hands behind which something is told wrongly, judged."""

from keptmarks.bounds import MAX_ORDER
from keptmarks.deeds import is_program, is_row
from keptmarks.kinds import is_number_to
from keptmarks.sheets import sheet_error
from keptmarks.standings import can_step, has_ended, start
from keptmarks.steps import step
from keptmarks.weavesearch import wrongly_told

MOST_FORMULAS = 2
MOST_PROGRAMS = 2


def losing_error(book, value):
    """Return None if value is a losing run for a book, otherwise the first error that applies."""
    if not isinstance(value, tuple) or len(value) != 4:
        return "form"
    sheet, row, programs, order = value
    if not isinstance(programs, tuple) or not isinstance(order, tuple):
        return "form"
    error = sheet_error(sheet)
    if error is not None:
        return "sheet", error
    if len(sheet[1]) > MOST_FORMULAS:
        return "formulas"
    if not is_row(sheet, row):
        return "row"
    place = wrong_program(sheet, programs)
    if place is not None:
        return "program", place
    return order_error(book, sheet, start(sheet, row, programs), order)


def wrong_program(sheet, programs):
    """Return the place at which programs are wrong, None if they are one program or two."""
    if programs == ():
        return 0
    for place, program in enumerate(programs):
        if not is_program(sheet, program):
            return place
    return MOST_PROGRAMS if len(programs) > MOST_PROGRAMS else None


def order_error(book, sheet, standing, order):
    """Return the first error of an order of steps from a standing on, None if something is told wrongly behind it."""
    last = len(standing[3]) - 1
    for spot, hand in enumerate(order[:MAX_ORDER]):
        if not is_number_to(hand, last) or not can_step(book, standing, hand):
            return "order", spot
        standing = step(book, sheet, standing, hand)
    if len(order) > MAX_ORDER:
        return "order", MAX_ORDER
    if not has_ended(standing):
        return "open"
    return "right" if wrongly_told(book, sheet, standing) == () else None
