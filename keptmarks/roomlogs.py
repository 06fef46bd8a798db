"""Logs of rooms: the texts of edits, written and read, and the rooms behind them."""

from keptmarks.bounds import MAX_EDITS, MAX_FORMULAS, MAX_INPUTS, MAX_VALUE
from keptmarks.errors import BadLog, BadText, MarkError
from keptmarks.rooms import Room
from keptmarks.sheettexts import formula_text, read_formula


def log_text(log):
    """Return the text of a log."""
    return "".join([edit_text(edit) + "\n" for edit in log])


def read_log(value):
    """Return the log of which value is the text; raise BadText with the first wrong line if there is none."""
    if not isinstance(value, str):
        raise BadText(0)
    lines = value.split("\n")
    if lines[-1] == "":
        lines.pop()
    log = []
    for number, line in enumerate(lines):
        edit = read_edit(line)
        if edit is None or number >= MAX_EDITS:
            raise BadText(number)
        log.append(edit)
    return tuple(log)


def room_behind(book, sheet, row, value):
    """Return a new room on which the edits of a log were done; raise BadLog with the place of the first that fails."""
    room = Room(book, sheet, row)
    if not isinstance(value, tuple):
        raise BadLog(0)
    for place, edit in enumerate(value):
        if not is_edit(edit):
            raise BadLog(place)
        try:
            do_edit(room, edit)
        except MarkError:
            raise BadLog(place) from None
    return room


def is_edit(value):
    """Return whether a value is a tuple of the word of an edit and two arguments."""
    return isinstance(value, tuple) and len(value) == 3 and (value[0] == "put" or value[0] == "change")


def do_edit(room, edit):
    """Do an edit in a room, and return the version behind it."""
    word, cell, new = edit
    if word == "put":
        return room.put(cell, new)
    return room.change(cell, new)


def edit_text(edit):
    """Return the text of an edit, without the line feed behind it."""
    word, cell, new = edit
    if word == "put":
        return put_line(cell, new)
    return change_head(cell) + formula_text(new)


def read_edit(line):
    """Return the edit of which a line is the text, None if it is the text of none."""
    for x in range(MAX_INPUTS):
        for v in range(MAX_VALUE + 1):
            if line == put_line(x, v):
                return "put", x, v
    for cell in range(MAX_INPUTS + MAX_FORMULAS):
        head = change_head(cell)
        if line.startswith(head):
            formula = read_formula(line[len(head):], cell)
            return None if formula is None else ("change", cell, formula)
    return None


def put_line(x, v):
    """Return the line by which an input is given a value."""
    return f"put {x} {v}"


def change_head(cell):
    """Return what stands ahead of the formula in the line by which a cell is given one."""
    return f"change {cell} "
