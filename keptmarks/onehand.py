"""Which books are safe for one hand alone."""

from keptmarks.books import CHANGE, CHECK, ENTER, FURTHER, OLD, PERHAPS, READERS, STOP, STRIKE, SURE, can_stand


def slip_alone(book):
    """Return the first number whose words hold of a book, None if it is safe for one hand."""
    if marks_nobody(book):
        return 1
    if answers_mark(book):
        return 2
    if raises_no_direct_reader(book):
        return 3
    if strikes_what_it_asks_for(book):
        return 4
    if leaves_marks_below_clean(book):
        return 5
    return None


def safe_alone(book):
    """Return whether a book is safe for one hand."""
    return slip_alone(book) is None


def marks_nobody(book):
    """Return whether direct readers, or those above them, are given no mark."""
    return book[READERS] == "none" or book[FURTHER] == "none"


def answers_mark(book):
    """Return whether some mark that can stand is answered."""
    stand = can_stand(book)
    return (1 in stand and book[PERHAPS] == "answer") or (2 in stand and book[SURE] == "answer")


def raises_no_direct_reader(book):
    """Return whether a cell with the mark perhaps is checked by its mark, which nobody surely makes sure."""
    if 1 not in can_stand(book) or book[PERHAPS] != "check" or book[CHECK] != "mark":
        return False
    return book[READERS] != "sure" or book[CHANGE] != "sure"


def strikes_what_it_asks_for(book):
    """Return whether a sure mark is struck ahead of a check that asks for it."""
    if 2 not in can_stand(book) or book[SURE] != "check" or book[CHECK] != "mark":
        return False
    return book[STRIKE] == "ahead"


def leaves_marks_below_clean(book):
    """Return whether marks of change can be left below a clean cell, where spreading stops."""
    if book[CHANGE] != "sure" or book[STOP] == "never":
        return False
    if book[STRIKE] == "unless":
        return True
    if book[STRIKE] == "ahead":
        return book[ENTER] == "behind"
    return book[OLD] == "kept"
