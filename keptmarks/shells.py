"""A shell: lines that are said, and what they are answered by."""

from keptmarks.books import altered, book_at, book_error
from keptmarks.comparing import hasty
from keptmarks.errors import BadBook, BadSheet, BadText, NothingToUndo, TooManyEdits, Unfit
from keptmarks.knownbooks import known_book
from keptmarks.onehand import slip_alone
from keptmarks.roomlogs import do_edit, log_text, read_edit
from keptmarks.rooms import Room
from keptmarks.safety import safe
from keptmarks.sheettexts import read_sheet, sheet_text

# How many figures the greatest INT has.
MOST_FIGURES = 5

# What stands behind a kept value for its mark.
MARK_SIGNS = ("", "?", "!")


class Shell:
    """A present book, a room or none, and what is said to them."""

    def __init__(self):
        self._book = known_book("values")
        self._room = None

    def say(self, line):
        """Do what a line says, and return what it is answered by."""
        if not isinstance(line, str):
            return "what"
        try:
            return self._answer(line)
        except Unfit:
            return "error Unfit"
        except BadBook:
            return "error BadBook"
        except BadSheet:
            return "error BadSheet"
        except BadText:
            return "error BadText"
        except TooManyEdits:
            return "error TooManyEdits"
        except NothingToUndo:
            return "error NothingToUndo"

    def _answer(self, line):
        """Return what a line is answered by; raise an error if what it says can't be done."""
        if line.startswith("sheet "):
            sheet = read_sheet(line[len("sheet "):])
            return self._enter(Room(self._book, sheet, (0,) * sheet[0]))
        if is_line_of_room(line):
            return "no room" if self._room is None else self._answer_of_room(line)
        if line == "judge":
            return judged(self._book)
        if line == "entries":
            return " ".join(self._book)
        if line == "hasty":
            return spaced(hasty(self._book))
        book = book_told(self._book, line.split(" "))
        if book is None:
            return "what"
        self._book = book
        return judged(book)

    def _answer_of_room(self, line):
        """Return what a line that is about the room is answered by."""
        room = self._room
        if line == "again":
            return self._enter(Room(self._book, room.sheet, room.row))
        if line == "undo":
            return version_told(room.undo())
        if is_edit_line(line):
            edit = read_edit(line)
            if edit is None:
                raise BadText(0)
            return version_told(do_edit(room, edit))
        if is_look_line(line):
            return str(room.look(int(line[len("look "):])))
        return shown(room, line)

    def _enter(self, room):
        """Have a new room from then on."""
        self._room = room
        return "room"


def is_line_of_room(line):
    """Return whether a line is one that asks for a room."""
    if line in ("again", "undo", "row", "worked", "kept", "show", "log"):
        return True
    return is_edit_line(line) or is_look_line(line)


def is_edit_line(line):
    """Return whether a line begins as the text of an edit does."""
    return line.startswith("put ") or line.startswith("change ")


def is_look_line(line):
    """Return whether a line asks for the value of a cell."""
    return line.startswith("look ") and is_int(line[len("look "):])


def is_int(text):
    """Return whether a text is an integer from 0 to 99999 in decimal, without noughts ahead of other figures."""
    if len(text) > MOST_FIGURES or not text.isascii() or not text.isdigit():
        return False
    return text == "0" or not text.startswith("0")


def is_word(text):
    """Return whether a text is a row of letters a to z, one at least."""
    return text.isascii() and text.isalpha() and text.islower()


def book_told(present, words):
    """Return the book that a line's words tell, None if they are no such line; raise an error if there is none such."""
    first, *rest = words
    if first == "number" and len(rest) == 1 and is_int(rest[0]):
        return book_at(int(rest[0]))
    if not all([is_word(word) for word in rest]):
        return None
    if first == "known" and len(rest) == 1:
        return known_book(rest[0])
    if first == "entry" and len(rest) == 2:
        return altered(present, rest[0], rest[1])
    if first == "book" and len(rest) == len(present):
        return book_of_words(tuple(rest))
    return None


def book_of_words(words):
    """Return the book of these words; raise BadBook if they are none."""
    error = book_error(words)
    if error is not None:
        raise BadBook(error)
    return words


def judged(book):
    """Return what becomes of a book."""
    if safe(book):
        return "safe"
    number = slip_alone(book)
    return "alone" if number is None else f"slip {number}"


def shown(room, line):
    """Return what of a room a line asks for."""
    if line == "row":
        return spaced([str(value) for value in room.row])
    if line == "worked":
        return spaced([str(many) for many in room.worked])
    if line == "kept":
        return spaced([kept_text(kept, mark) for kept, mark in room.kept])
    return sheet_text(room.sheet) if line == "show" else log_text(room.edits)


def kept_text(kept, mark):
    """Return what is told of a cell: what is kept for it, and a sign for its mark."""
    return ("-" if kept is None else str(kept)) + MARK_SIGNS[mark]


def spaced(words):
    """Return words with a blank between two, or "none" if there are none."""
    return " ".join(words) if len(words) > 0 else "none"


def version_told(version):
    """Return how a version is answered."""
    return f"version {version}"
