"""The books that have names."""

from keptmarks.books import altered
from keptmarks.errors import Unfit

# Of each name its book's words in order.
PLAIN_BOOKS = (
    ("signals", "sure perhaps marked check work mark sure first ahead ahead struck one"),
    ("values", "perhaps perhaps marked check work values none first ahead ahead struck one"),
    ("rework", "sure sure marked answer work values none first ahead ahead struck one"),
    ("remark", "perhaps perhaps never check work values none between unless ahead kept one"),
)

# Of each name a plain book's name, and the entry and its word by which its book differs from that one.
ALTERED_BOOKS = (
    ("early", "values", "write", "last"),
    ("shared", "values", "hands", "any"),
    ("late", "values", "strike", "behind"),
    ("unentered", "values", "enter", "behind"),
    ("direct", "values", "further", "none"),
    ("stale", "values", "perhaps", "answer"),
    ("untold", "signals", "readers", "perhaps"),
    ("blind", "signals", "sure", "check"),
)


def known_names():
    """Return the names of the known books, in order."""
    return tuple([known[0] for known in PLAIN_BOOKS] + [known[0] for known in ALTERED_BOOKS])


def known_book(value):
    """Return the book whose name is value; raise Unfit if none has it."""
    for name, words in PLAIN_BOOKS:
        if value == name:
            return tuple(words.split())
    for name, plain, entry, word in ALTERED_BOOKS:
        if value == name:
            return altered(known_book(plain), entry, word)
    raise Unfit()
