"""The texts of books, written and read."""

from keptmarks.books import ENTRIES
from keptmarks.errors import BadText


def book_text(book):
    """Return the text of a book."""
    return "\n".join([entry_line(entry[0], word) for entry, word in zip(ENTRIES, book)])


def read_book(value):
    """Return the book of which value is the text; raise BadText with the first wrong line if there is none."""
    if not isinstance(value, str):
        raise BadText(0)
    lines = value.split("\n")
    book = []
    for place, (name, words) in enumerate(ENTRIES):
        word = read_word(lines[place], name, words) if place < len(lines) else None
        if word is None:
            raise BadText(place)
        book.append(word)
    if len(lines) > len(ENTRIES):
        raise BadText(len(ENTRIES))
    return tuple(book)


def entry_line(name, word):
    """Return the line of an entry."""
    return f"{name} {word}"


def read_word(line, name, words):
    """Return the one of the words that a line tells for the entry of this name, None if it tells none."""
    for word in words:
        if line == entry_line(name, word):
            return word
    return None
