"""Books of marks: their entries, their numbers and their neighbours."""

from keptmarks.errors import Unfit
from keptmarks.kinds import is_number_to
from keptmarks.tuples import with_item

ENTRIES = (
    ("readers", ("none", "perhaps", "sure")),
    ("further", ("none", "perhaps", "sure")),
    ("stop", ("marked", "unraised", "never")),
    ("perhaps", ("answer", "check", "work")),
    ("sure", ("answer", "check", "work")),
    ("check", ("values", "mark")),
    ("change", ("none", "sure")),
    ("write", ("first", "last", "between")),
    ("strike", ("ahead", "behind", "unless")),
    ("enter", ("ahead", "behind")),
    ("old", ("struck", "kept")),
    ("hands", ("one", "any")),
)

HOW_MANY_BOOKS = 69984

# The places of the entries.
READERS = 0
FURTHER = 1
STOP = 2
PERHAPS = 3
SURE = 4
CHECK = 5
CHANGE = 6
WRITE = 7
STRIKE = 8
ENTER = 9
OLD = 10
HANDS = 11

# The marks of the words that tell which mark is given.
MARKS = {"none": 0, "perhaps": 1, "sure": 2}


def book_error(value):
    """Return None if value is a book, otherwise the first error that applies."""
    if not isinstance(value, tuple) or len(value) != len(ENTRIES):
        return "form"
    for (name, words), word in zip(ENTRIES, value):
        if word not in words:
            return name
    return None


def altered(book, name, word):
    """Return the book with another word at the entry of this name; raise Unfit if there is no such entry or word."""
    for place, (entry, words) in enumerate(ENTRIES):
        if name == entry and word in words:
            return with_item(book, place, word)
    raise Unfit()


def can_stand(book):
    """Return the marks that can stand, ascending."""
    marks = []
    if "perhaps" in (book[READERS], book[FURTHER]):
        marks.append(1)
    if "sure" in (book[READERS], book[FURTHER], book[CHANGE]):
        marks.append(2)
    return tuple(marks)


def book_number(book):
    """Return the number of a book."""
    number = 0
    for (_, words), word in zip(ENTRIES, book):
        number = number * len(words) + words.index(word)
    return number


def book_at(number):
    """Return the book with this number; raise Unfit if there is none."""
    if not is_number_to(number, HOW_MANY_BOOKS - 1):
        raise Unfit()
    book = ()
    left = number
    # The last entry changes quickest, so it is the first one that is told by what is left over.
    for _, words in reversed(ENTRIES):
        left, place = divmod(left, len(words))
        book = (words[place],) + book
    return book


def neighbours(book):
    """Return all books that differ from a book in just one entry, ascending by their numbers."""
    others = []
    for place, (_, words) in enumerate(ENTRIES):
        for word in words:
            if word != book[place]:
                others.append(with_item(book, place, word))
    return tuple(sorted(others, key=book_number))
