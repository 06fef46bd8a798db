"""Which books are safe for any hands, and the nearest one that is."""

from keptmarks.books import CHECK, ENTER, FURTHER, HANDS, PERHAPS, READERS, STOP, STRIKE, SURE, WRITE, can_stand
from keptmarks.onehand import answers_mark, marks_nobody, raises_no_direct_reader, strikes_what_it_asks_for
from keptmarks.tuples import with_item


def slip(book):
    """Return the first number whose words hold of a book, None if it is safe for any hands."""
    if marks_nobody(book):
        return 1
    if answers_mark(book):
        return 2
    if raises_no_direct_reader(book):
        return 3
    if strikes_what_it_asks_for(book):
        return 4
    # The number 5 is of one hand alone.
    if book[WRITE] == "last":
        return 6
    if book[ENTER] == "behind":
        return 7
    if book[HANDS] == "any":
        return 8
    if strikes_what_came_meanwhile(book):
        return 9
    return None


def safe(book):
    """Return whether a book is safe for any hands."""
    return slip(book) is None


def mended(book):
    """Return a safe book that differs from a book in as few entries as a safe book can."""
    best = None
    for readers in given_words(book[READERS]):
        for further in given_words(book[FURTHER]):
            other = mended_but_given(with_item(with_item(book, READERS, readers), FURTHER, further))
            if best is None or how_many_differ(book, other) < how_many_differ(book, best):
                best = other
    return best


def strikes_what_came_meanwhile(book):
    """Return whether a mark that is given while a cell is worked at can be lost."""
    return book[STRIKE] == "behind" or (book[STRIKE] == "unless" and book[STOP] != "never")


def given_words(word):
    """Return the words that may stand for a mark that has to be given: the same one, if it gives one."""
    return ("perhaps", "sure") if word == "none" else (word,)


def mended_but_given(book):
    """Return the book with as few other words as make it safe, where readers and further give marks already."""
    book = with_strike_mended(book)
    for mark, place in ((1, PERHAPS), (2, SURE)):
        if mark in can_stand(book) and book[place] == "answer":
            book = with_item(book, place, "work")
    # One other word mends both of these, so it is never one too many.
    if raises_no_direct_reader(book) or strikes_what_it_asks_for(book):
        book = with_item(book, CHECK, "values")
    for place, wrong, right in ((WRITE, "last", "first"), (ENTER, "behind", "ahead"), (HANDS, "any", "one")):
        if book[place] == wrong:
            book = with_item(book, place, right)
    return book


def with_strike_mended(book):
    """Return the book with another word for strike or stop, if marks could be lost.

    Where it can be, strike becomes or stays "unless": with "ahead" a check of the sure mark by marks would not do.
    """
    if not strikes_what_came_meanwhile(book):
        return book
    if book[STRIKE] == "unless":
        return with_item(book, STOP, "never")
    return with_item(book, STRIKE, "unless" if book[STOP] == "never" else "ahead")


def how_many_differ(book, other):
    """Return in how many entries two books differ."""
    return len([place for place, word in enumerate(book) if word != other[place]])
