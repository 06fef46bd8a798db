"""The errors that the package raises, all directly under MarkError.

What is handed to them may be any value, so it stands in no message.
"""


class MarkError(ValueError):
    """What every error of this package is."""


class Unfit(MarkError):
    """What was handed in does not fit."""

    def __init__(self):
        super().__init__("what was handed in does not fit")


class BadSheet(MarkError):
    """A value is no sheet; error is what sheet_error tells of it."""

    def __init__(self, error):
        super().__init__("this is no sheet")
        self.error = error


class BadBook(MarkError):
    """A value is no book that will do; error tells why."""

    def __init__(self, error):
        super().__init__("this is no book that will do")
        self.error = error


class BadText(MarkError):
    """A value is the text of nothing; line is the number of the first line that is wrong."""

    def __init__(self, line):
        super().__init__("this text is wrong at a line")
        self.line = line


class BadLog(MarkError):
    """A log can't be done; place is that of the first edit that fails."""

    def __init__(self, place):
        super().__init__("this log fails at an edit")
        self.place = place


class TooMany(MarkError):
    """More than limit of something would be needed."""

    def __init__(self, limit):
        super().__init__("more are needed than the limit")
        self.limit = limit


class TooManyEdits(MarkError):
    """As many edits stand as may."""

    def __init__(self):
        super().__init__("as many edits stand as may")


class NothingToUndo(MarkError):
    """No edit stands."""

    def __init__(self):
        super().__init__("no edit stands")
