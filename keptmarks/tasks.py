"""What one step of a hand does, task by task.

Each function that does a step of a task takes the book, the sheet, what all hands share (values, cells, entered), the
hand, its tasks ahead of the one at work, and this one. It returns what is shared behind the step, the hand's tasks
then, and what the step tells, None if it tells nothing.
"""

from keptmarks.asking import taken_branch
from keptmarks.books import CHANGE, CHECK, ENTER, FURTHER, HANDS, OLD, PERHAPS, READERS, STOP, STRIKE, SURE, WRITE
from keptmarks.books import MARKS
from keptmarks.tuples import with_item

# Of each word of the entry write its phases.
PHASES = {
    "first": ("store", "spread"),
    "last": ("spread", "store"),
    "between": ("spread", "store", "spread"),
}


def step_of_deed(values, deed):
    """Return the tasks behind the step by which a deed begins."""
    if deed[0] == "look":
        return (deed,)
    _, cell, value = deed
    # A set to the value that is there is done at once, and marks nobody.
    if values[cell] == value:
        return ()
    return (("write", cell, value, 0),)


def step_of_write(book, sheet, shared, hand, ahead, task):
    """Do the next phase of a write."""
    values, cells, entered = shared
    _, cell, value, done = task
    phases = PHASES[book[WRITE]]
    if done + 1 < len(phases):
        ahead = ahead + (("write", cell, value, done + 1),)
    if phases[done] == "store":
        return (with_item(values, cell, value), cells, entered), ahead, None
    return shared, ahead + (spreading(cell, book[READERS]),), None


def step_of_spread(book, sheet, shared, hand, ahead, task):
    """Give one mark, or find whom to give marks next."""
    values, cells, entered = shared
    _, waiting, marking = task
    if marking:
        cell, mark = marking[0]
        spot = cell - len(values)
        before = cells[spot]
        after = marked(before, mark)
        cells = with_item(cells, spot, after)
        marking = marking[1:]
        if goes_on(book, before[1], after[1]):
            waiting = waiting + ((cell, MARKS[book[FURTHER]]),)
    else:
        cell, mark = waiting[0]
        waiting = waiting[1:]
        marking = tuple([(reader, mark) for reader in entered[cell]]) if mark > 0 else ()
    if waiting or marking:
        ahead = ahead + (("spread", waiting, marking),)
    return (values, cells, entered), ahead, None


def step_of_look(book, sheet, shared, hand, ahead, task):
    """Answer a look, or begin its cell."""
    values, cells, entered = shared
    cell = task[1]
    spot = cell - len(values)
    if spot < 0:
        return answered(book, shared, ahead, values[cell])
    kept, mark, record, again, holder = cells[spot]
    if kept is not None and word_at_look(book, mark) == "answer":
        return answered(book, shared, ahead, kept)
    begun = (
        kept,
        0 if book[STRIKE] == "ahead" else mark,
        record,
        False,
        hand if book[HANDS] == "one" else None,
    )
    if kept is None or word_at_look(book, mark) == "work":
        following = whole_work(sheet, cell)
    else:
        following = check_from(cell, record, 0)
    return (values, with_item(cells, spot, begun), entered), ahead + (following,), None


def step_of_check(book, sheet, shared, hand, ahead, task):
    """Look at the cell that stands at a place of a record."""
    reads, place = task[2:]
    return shared, ahead + (task, ("look", reads[place][0])), None


def step_of_compare(book, sheet, shared, hand, ahead, task):
    """Find whether a checked cell needs work, by what the look at a cell of its record was answered."""
    _, cell, reads, place, value = task
    if book[CHECK] == "values":
        needs_work = value != reads[place][1]
    else:
        needs_work = shared[1][cell - len(shared[0])][1] == 2
    following = whole_work(sheet, cell) if needs_work else check_from(cell, reads, place + 1)
    return shared, ahead + (following,), None


def step_of_work(book, sheet, shared, hand, ahead, task):
    """Ask for the next cell that a formula reads, or keep what it has come to."""
    _, cell, left, reads = task
    if not isinstance(left, tuple):
        return kept_by_work(book, shared, ahead, task)
    asking = ("ask", cell, left, reads)
    if book[ENTER] == "ahead":
        return entered_at(shared, cell, left[0]), ahead + (asking,), None
    return shared, ahead + (asking, ("look", left[0])), None


def step_of_ask(book, sheet, shared, hand, ahead, task):
    """Look at the cell that is asked for."""
    return shared, ahead + (task, ("look", task[2][0])), None


def step_of_enter(book, sheet, shared, hand, ahead, task):
    """Enter a cell at one that it has read, and go on."""
    _, cell, left, reads, value = task
    return entered_at(shared, cell, left[0]), ahead + (work_behind(cell, left, reads, value),), None


def step_of_end(book, sheet, shared, hand, ahead, task):
    """Strike the mark if it is time, let go of the cell, and answer."""
    values, cells, entered = shared
    spot = task[1] - len(values)
    kept, mark, record, again, _ = cells[spot]
    if book[STRIKE] == "behind" or (book[STRIKE] == "unless" and not again):
        mark = 0
    cells = with_item(cells, spot, (kept, mark, record, again, None))
    return answered(book, (values, cells, entered), ahead, kept)


def kept_by_work(book, shared, ahead, task):
    """Keep the value that a formula has come to."""
    values, cells, entered = shared
    _, cell, value, reads = task
    spot = cell - len(values)
    kept, mark, _, again, holder = cells[spot]
    cells = with_item(cells, spot, (value, mark, reads, again, holder))
    if book[OLD] == "struck":
        entered = struck_elsewhere(entered, cell, reads)
    ahead = ahead + (("end", cell),)
    if kept is not None and kept != value and book[CHANGE] != "none":
        ahead = ahead + (spreading(cell, book[CHANGE]),)
    return (values, cells, entered), ahead, None


def answered(book, shared, ahead, value):
    """Go on behind an answer with the task that waits for it; if none does the answer is what the step tells."""
    if ahead == ():
        return shared, (), value
    waiting = ahead[-1]
    if waiting[0] == "check":
        _, cell, reads, place = waiting
        following = ("compare", cell, reads, place, value)
    else:
        _, cell, left, reads = waiting
        if book[ENTER] == "ahead":
            following = work_behind(cell, left, reads, value)
        else:
            following = ("enter", cell, left, reads, value)
    return shared, ahead[:-1] + (following,), None


def word_at_look(book, mark):
    """Return what a look does at a cell that keeps a value and has this mark."""
    if mark == 0:
        return "answer"
    return book[PERHAPS] if mark == 1 else book[SURE]


def goes_on(book, before, after):
    """Return whether spreading goes on at a cell that had the one mark and now has the other one."""
    if book[FURTHER] == "none":
        return False
    if book[STOP] == "marked":
        return before == 0
    return book[STOP] == "never" or after > before


def marked(cell, mark):
    """Return what a standing has for a formula's cell that is given a mark."""
    kept, before, record, _, holder = cell
    return kept, max(before, mark), record, True, holder


def spreading(cell, word):
    """Return the task of a spreading from a cell with the mark of a word."""
    return "spread", ((cell, MARKS[word]),), ()


def whole_work(sheet, cell):
    """Return the task of working a cell out from the beginning."""
    inputs, formulas = sheet
    return "work", cell, formulas[cell - inputs], ()


def work_behind(cell, left, reads, value):
    """Return the task of working a cell out behind reading a value."""
    other, branches = left
    return "work", cell, taken_branch(branches, value), reads + ((other, value),)


def check_from(cell, reads, place):
    """Return the task of checking a record from a place on, or that of the end if no pair stands there."""
    if place == len(reads):
        return "end", cell
    return "check", cell, reads, place


def entered_at(shared, cell, other):
    """Return what is shared with a cell entered at another one."""
    values, cells, entered = shared
    readers = entered[other]
    if cell in readers:
        return shared
    return values, cells, with_item(entered, other, tuple(sorted(readers + (cell,))))


def struck_elsewhere(entered, cell, reads):
    """Return who is entered where, with a cell taken off wherever it does not read."""
    read = [other for other, _ in reads]
    left = []
    for other, readers in enumerate(entered):
        if cell in readers and other not in read:
            readers = tuple([reader for reader in readers if reader != cell])
        left.append(readers)
    return tuple(left)


# Of each task the function that does a step of it.
TASKS = {
    "write": step_of_write,
    "spread": step_of_spread,
    "look": step_of_look,
    "check": step_of_check,
    "compare": step_of_compare,
    "work": step_of_work,
    "ask": step_of_ask,
    "enter": step_of_enter,
    "end": step_of_end,
}


def step_of_task(book, sheet, shared, hand, tasks):
    """Do a step of the last one of a hand's tasks."""
    action = TASKS[tasks[-1][0]]
    return action(book, sheet, shared, hand, tasks[:-1], tasks[-1])
