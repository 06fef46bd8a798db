"""Rooms: sheets that are kept by a book, set, put anew and looked at by one hand."""

from keptmarks.bounds import MAX_EDITS
from keptmarks.books import READERS, book_error
from keptmarks.deeds import is_deed, is_formula_cell, is_row
from keptmarks.errors import BadBook, BadSheet, NothingToUndo, TooManyEdits, Unfit
from keptmarks.onedeed import do_deed, do_task
from keptmarks.onehand import slip_alone
from keptmarks.sheets import sheet_error
from keptmarks.standings import NOTHING_KEPT, kept_cells, start
from keptmarks.tasks import spreading, struck_elsewhere
from keptmarks.tuples import with_item


class Room:
    """A sheet that is kept by a book that is safe for one hand.

    What is kept, marked, read and entered is held as the part of a standing that all hands share.
    """

    def __init__(self, book, sheet, row):
        check_book(book)
        check_sheet(sheet)
        if not is_row(sheet, row):
            raise Unfit()
        self._book = book
        self._sheet = sheet
        self._shared = start(sheet, row, ())[:3]
        self._worked = (0,) * len(sheet[1])
        self._edits = ()
        # Of each edit that stands what takes it back: another edit of the same word.
        self._elders = ()

    @property
    def book(self):
        """The book by which the sheet is kept."""
        return self._book

    @property
    def sheet(self):
        """The present sheet."""
        return self._sheet

    @property
    def row(self):
        """What the inputs have now."""
        return self._shared[0]

    @property
    def edits(self):
        """The edits that stand, in order."""
        return self._edits

    @property
    def version(self):
        """How many edits stand."""
        return len(self._edits)

    @property
    def worked(self):
        """How often each formula's cell was worked out since the room, or the first one of its twins, was made."""
        return self._worked

    @property
    def kept(self):
        """The pairs (kept, mark) of the formulas' cells, in order."""
        return kept_cells(self._shared)

    def __eq__(self, other):
        """Return whether the other one is a room with an equal book, sheet and row."""
        if not isinstance(other, Room):
            return False
        return self._book == other._book and self._sheet == other._sheet and self._shared[0] == other._shared[0]

    def look(self, cell):
        """Return the value of a cell; raise Unfit if it is none."""
        deed = ("look", cell)
        if not is_deed(self._sheet, deed):
            raise Unfit()
        return self._do(deed)

    def put(self, x, v):
        """Give an input a value and return the version then; raise Unfit or TooManyEdits if it can't be done."""
        if not is_deed(self._sheet, ("set", x, v)):
            raise Unfit()
        self._check_many()
        elder = ("put", x, self._shared[0][x])
        self._do_edit(("put", x, v))
        return self._stand(("put", x, v), elder)

    def change(self, cell, formula):
        """Put a formula in the place of a cell's elder one and return the version then.

        Raise Unfit, BadSheet or TooManyEdits if it can't be done.
        """
        if not is_formula_cell(self._sheet, cell):
            raise Unfit()
        check_sheet(with_formula(self._sheet, cell, formula))
        self._check_many()
        elder = ("change", cell, self._sheet[1][cell - self._sheet[0]])
        self._do_edit(("change", cell, formula))
        return self._stand(("change", cell, formula), elder)

    def undo(self):
        """Take back the last edit that stands and return the version then; raise NothingToUndo if there is none."""
        if self._edits == ():
            raise NothingToUndo()
        self._do_edit(self._elders[-1])
        self._edits = self._edits[:-1]
        self._elders = self._elders[:-1]
        return len(self._edits)

    def twin(self):
        """Return a room with all that this one has, which goes its own way from then on."""
        other = Room(self._book, self._sheet, self._shared[0])
        other._shared = self._shared
        other._worked = self._worked
        other._edits = self._edits
        other._elders = self._elders
        return other

    def _check_many(self):
        """Raise TooManyEdits if no further edit may stand."""
        if len(self._edits) >= MAX_EDITS:
            raise TooManyEdits()

    def _stand(self, edit, elder):
        """Let an edit stand that was done, with the one that takes it back; return the version then."""
        self._edits = self._edits + (edit,)
        self._elders = self._elders + (elder,)
        return len(self._edits)

    def _do(self, deed):
        """Do a deed to its end, and return what it tells."""
        shared, answer, worked = do_deed(self._book, self._sheet, self._shared, deed)
        self._shared = shared
        inputs = self._sheet[0]
        self._worked = tuple([many + worked.count(inputs + spot) for spot, many in enumerate(self._worked)])
        return answer

    def _do_edit(self, edit):
        """Do what an edit says, which fits."""
        word, cell, new = edit
        if word == "put":
            self._do(("set", cell, new))
            return
        sheet = with_formula(self._sheet, cell, new)
        task = spreading(cell, self._book[READERS])
        shared, _, _ = do_task(self._book, sheet, forgotten(self._shared, cell), task)
        self._sheet = sheet
        self._shared = shared


def check_book(book):
    """Raise BadBook if this is no book that is safe for one hand."""
    error = book_error(book)
    if error is not None:
        raise BadBook(error)
    number = slip_alone(book)
    if number is not None:
        raise BadBook(("slip", number))


def check_sheet(sheet):
    """Raise BadSheet if this is no sheet."""
    error = sheet_error(sheet)
    if error is not None:
        raise BadSheet(error)


def with_formula(sheet, cell, formula):
    """Return the sheet with another formula for a cell."""
    inputs, formulas = sheet
    return inputs, with_item(formulas, cell - inputs, formula)


def forgotten(shared, cell):
    """Return what is shared with nothing kept for a cell, which is entered nowhere any more."""
    values, cells, entered = shared
    return values, with_item(cells, cell - len(values), NOTHING_KEPT), struck_elsewhere(entered, cell, ())
