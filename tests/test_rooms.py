"""J1, J2 and J4: rooms, beside a reckoning of their own."""

import functools
import itertools
import random
import unittest

from keptmarks.asking import true_value
from keptmarks.books import book_error
from keptmarks.errors import BadBook, BadSheet, MarkError, NothingToUndo, TooManyEdits, Unfit
from keptmarks.knownbooks import known_book, known_names
from keptmarks.onehand import slip_alone
from keptmarks.rooms import Room
from keptmarks.sheets import sheet_error
from keptmarks.vain import no_vain
from tests.samples import (
    COPIES, COPY, EIGHT, ENTRY_NAMES, NEVER, ODD_VALUES, PAIR, REWORK, SHEETS, SIGNALS, TRACED, TWO, VALUES, book_with,
    check_calls, formula_of_deep, formula_of_parts, made_book, made_formula, made_lively_sheet, made_row,
    made_small_sheet, outcome, some_books, with_item,
)
from tests.slowhands import SlowHands
from tests.test_asking import slow_walk

ATTRIBUTES = ("book", "sheet", "row", "edits", "version", "worked", "kept")


class SlowRoom:
    """What a room does, told once more: the slow reckoning's hand does deeds, and cells are put anew by hand."""

    def __init__(self, book, sheet, row):
        self.book = book
        self.slow = SlowHands(book, sheet, row, ((),))
        self.edits = []
        self.elders = []

    def do(self, deed):
        self.slow.left[0].append(deed)
        run = self.slow.hand(0)
        next(run)
        while not self.slow.ended(0):
            self.slow.told = None
            next(run, None)
        return self.slow.told

    def renew(self, number, formula):
        self.slow.formulas[number] = formula
        cell = self.slow.cells[number]
        cell.kept, cell.mark, cell.record, cell.again = None, 0, (), False
        for readers in self.slow.entered:
            readers.discard(number)
        for _ in self.slow.spread(self.slow.tasks[0], number, dict(zip(ENTRY_NAMES, self.book))["readers"]):
            pass

    def look(self, cell):
        return self.do(("look", cell))

    def edit(self, edit):
        word, cell, new = edit
        elders = self.slow.values if word == "put" else self.slow.formulas
        self.elders.append((word, cell, elders[cell]))
        self.edits.append(edit)
        self.apply(edit)
        return len(self.edits)

    def apply(self, edit):
        word, cell, new = edit
        if word == "put":
            self.do(("set", cell, new))
        else:
            self.renew(cell, new)

    def undo(self):
        self.edits.pop()
        self.apply(self.elders.pop())
        return len(self.edits)

    def state(self):
        slow = self.slow
        return (
            self.book, (slow.inputs, tuple(slow.formulas.values())), tuple(slow.values), tuple(self.edits),
            len(self.edits), tuple(slow.worked.values()),
            tuple((cell.kept, cell.mark) for cell in slow.cells.values()),
        )


def state(room):
    """All that can be read of a room."""
    return tuple(getattr(room, name) for name in ATTRIBUTES)


@functools.cache
def books_safe_alone():
    return tuple(book for book in some_books(1)[:-1] if slip_alone(book) is None)


def drawn_act(dice, room):
    """A drawn look or edit that fits a room: its method's name and its arguments."""
    inputs, formulas = room.sheet
    draw = dice.random()
    if draw < 0.5:
        return "look", (dice.randrange(inputs + len(formulas)),)
    if draw < 0.7 and inputs:
        return "put", (dice.randrange(inputs), dice.randrange(4))
    if draw < 0.85:
        cell = inputs + dice.randrange(len(formulas))
        if dice.random() < 0.2:
            return "change", (cell, formulas[cell - inputs])
        if dice.random() < 0.6 and cell > 0:
            return "change", (cell, (dice.randrange(cell), tuple(dice.sample(range(4), dice.randrange(1, 5)))))
        return "change", (cell, made_formula(dice, cell, 3, [20]))
    if room.edits:
        return "undo", ()
    return "look", (dice.randrange(inputs + len(formulas)),)


def made_room(number, books):
    """A drawn book, a new room by it, and a dice."""
    dice = random.Random(number)
    sheet = made_lively_sheet(dice, dice.choice((2, 4))) if number % 3 else made_small_sheet(dice, dice.choice((3, 6)))
    return Room(dice.choice(books), sheet, made_row(dice, sheet)), dice


class Examples(unittest.TestCase):
    def test_looks_and_puts(self):
        r = Room(VALUES, PAIR, (0,))
        told = [r.look(2), r.worked, r.kept, r.put(0, 1), r.kept, r.look(2), r.worked, r.look(0)]
        self.assertEqual(told, [1, (1, 1), ((1, 0), (1, 0)), 1, ((1, 1), (1, 1)), 0, (2, 2), 1])
        told = [r.put(0, 2), r.kept, r.look(2), r.worked, r.kept]
        self.assertEqual(told, [2, ((0, 1), (0, 1)), 0, (3, 2), ((0, 0), (0, 0))])
        t = r.twin()
        told = [t.change(1, (0, (0, 1, 2))), t.kept, t.look(2), t.worked, t == r, t.undo(), t == r, t.look(2), t.worked]
        self.assertEqual(told, [3, ((None, 0), (0, 1)), 1, (4, 3), False, 2, True, 0, (5, 4)])
        told = [r.undo(), r.row, r.kept, r.look(1), r.undo(), r.row, r.look(2), r.worked]
        self.assertEqual(told, [1, (1,), ((0, 1), (0, 1)), 0, 0, (0,), 1, (5, 3)])
        with self.assertRaises(NothingToUndo):
            r.undo()
        with self.assertRaises(Unfit):
            r.put(1, 0)
        with self.assertRaises(BadSheet) as caught:
            r.change(2, (2, (0,)))
        self.assertEqual(caught.exception.error, ("formula", 2, (), "cell"))

    def test_rooms_that_are_none(self):
        with self.assertRaises(BadBook) as caught:
            Room(book_with(VALUES, perhaps="answer"), PAIR, (0,))
        self.assertEqual(caught.exception.error, ("slip", 2))
        with self.assertRaises(Unfit):
            Room(VALUES, PAIR, (4,))


class New(unittest.TestCase):
    def raises(self, error, fields, *arguments):
        with self.assertRaises(error) as caught:
            Room(*arguments)
        self.assertEqual(vars(caught.exception), fields, repr(arguments)[:200])

    def test_what_a_new_room_has(self):
        for sheet in SHEETS:
            inputs, formulas = sheet
            for book in (VALUES, SIGNALS, REWORK, TRACED):
                row = tuple(range(inputs))
                room = Room(book, sheet, row)
                many = len(formulas)
                self.assertEqual(state(room), (book, sheet, row, (), 0, (0,) * many, ((None, 0),) * many))
                self.assertEqual(
                    [type(value) for value in state(room)], [tuple, tuple, tuple, tuple, int, tuple, tuple])

    def test_books_that_are_none(self):
        for book in (*ODD_VALUES, VALUES[:11], VALUES + ("one",), list(VALUES), ("mark",) + VALUES[1:],
                     with_item(VALUES, 11, "two"), (None,) * 12, 32544, "values"):
            error = book_error(book)
            self.assertIsNotNone(error)
            for rest in ((PAIR, (0,)), (None, None), (PAIR, (4,)), ([], [])):
                self.raises(BadBook, {"error": error}, book, *rest)

    def test_books_that_slip(self):
        for book in some_books(17):
            number = slip_alone(book)
            if number is None:
                self.assertEqual(Room(book, PAIR, (0,)).book, book)
            else:
                self.raises(BadBook, {"error": ("slip", number)}, book, PAIR, (0,))
                self.raises(BadBook, {"error": ("slip", number)}, book, None, [])
        told = {"direct": 1, "stale": 2, "untold": 3, "blind": 4}
        for name in known_names():
            if name in told:
                self.raises(BadBook, {"error": ("slip", told[name])}, known_book(name), PAIR, (0,))
            else:
                self.assertEqual(Room(known_book(name), PAIR, (0,)).look(2), 1)
        self.raises(BadBook, {"error": ("slip", 5)}, book_with(TRACED, strike="unless"), PAIR, (0,))

    def test_sheets_that_are_none(self):
        for sheet in (*ODD_VALUES, (1, ()), (4, (0,)), (1, (0,) * 9), [1, (0,)], (1, ((1, (0,)),)), (True, (0,)),
                      (1, (formula_of_deep(0, 9),)), (1, (formula_of_parts(0, 201),)), PAIR + (0,)):
            error = sheet_error(sheet)
            self.assertIsNotNone(error)
            for row in ((0,), None, [], (4,), ()):
                self.raises(BadSheet, {"error": error}, VALUES, sheet, row)

    def test_rows_that_are_none(self):
        for row in (*[value for value in ODD_VALUES if value != (1,)], (0, 0), (4,), (-1,), (True,), [0], ("0",), 0):
            self.raises(Unfit, {}, VALUES, PAIR, row)
        for row in ((), (0,), (0, 0, 0), (0, 4), (False, 0), [0, 0]):
            self.raises(Unfit, {}, VALUES, (2, (0,)), row)
        self.raises(Unfit, {}, VALUES, (0, (1,)), (0,))
        self.assertEqual(Room(VALUES, (0, (1,)), ()).look(0), 1)


class Look(unittest.TestCase):
    def test_cells_that_are_none(self):
        room = Room(VALUES, PAIR, (1,))
        room.look(2)
        before = state(room)
        for cell in (*ODD_VALUES, 3, -1, -3, 10 ** 399, "0", (0,), [0], {0: 0}, room, PAIR, VALUES):
            with self.assertRaises(Unfit):
                room.look(cell)
            self.assertEqual(state(room), before)

    def test_each_cell(self):
        for sheet in SHEETS:
            row = (2, 1, 3)[:sheet[0]]
            room = Room(VALUES, sheet, row)
            for cell in range(sheet[0] + len(sheet[1])):
                told = room.look(cell)
                self.assertEqual([told, type(told)], [true_value(sheet, row, cell), int])

    def test_what_is_worked_out(self):
        room = Room(VALUES, COPIES, (2,))
        self.assertEqual([room.look(1), room.worked, room.kept], [2, (1, 0, 0), ((2, 0), (None, 0), (None, 0))])
        self.assertEqual([room.look(3), room.worked, room.look(2), room.worked], [2, (1, 1, 1), 2, (1, 1, 1)])
        self.assertEqual([room.look(0), room.worked, room.version, room.edits], [2, (1, 1, 1), 0, ()])

    def test_long_looks(self):
        # A look takes as many steps as it needs, in one room more than 4000 in all.
        dense = (1, tuple((0, (made_dense(cell),)) for cell in range(1, 9)))
        room = Room(book_with(VALUES, stop="never", strike="unless", readers="sure", sure="check"), dense, (0,))
        for value in range(1, 30):
            room.put(0, value % 4)
            self.assertEqual(room.look(8), 1)


def made_dense(cell):
    """A formula that reads all formulas' cells ahead of this one."""
    formula = 1
    for other in range(1, cell):
        formula = (other, (formula,))
    return formula


class Put(unittest.TestCase):
    def test_what_is_unfit(self):
        room = Room(VALUES, (2, (0, (0, (1, 0)))), (1, 2))
        room.look(3)
        room.put(1, 3)
        before = state(room)
        odd = [value for value in ODD_VALUES if value not in (0, 1) or type(value) is bool]
        for x in (*odd, -1, 2, 3, "0", (0,), [1]):
            for v in (0, 1, 4, None):
                with self.assertRaises(Unfit):
                    room.put(x, v)
        for v in (*odd, -1, 4, "0", (0,), [1]):
            for x in (0, 1, 2, None):
                with self.assertRaises(Unfit):
                    room.put(x, v)
        self.assertEqual(state(room), before)
        with self.assertRaises(Unfit):
            Room(VALUES, (0, (1,)), ()).put(0, 0)

    def test_versions_and_edits(self):
        room = Room(VALUES, (3, (0,)), (0, 0, 0))
        for number, (x, v) in enumerate(((0, 1), (2, 3), (1, 0), (0, 1), (2, 0)), 1):
            told = room.put(x, v)
            self.assertEqual([told, type(told), room.version], [number, int, number])
        self.assertEqual(room.edits, (("put", 0, 1), ("put", 2, 3), ("put", 1, 0), ("put", 0, 1), ("put", 2, 0)))
        self.assertEqual(room.row, (1, 0, 0))
        self.assertEqual(room.sheet, (3, (0,)))

    def test_a_put_to_what_is_there_marks_nobody(self):
        room = Room(VALUES, PAIR, (1,))
        room.look(2)
        self.assertEqual([room.put(0, 1), room.kept, room.edits], [1, ((0, 0), (0, 0)), (("put", 0, 1),)])
        self.assertEqual([room.undo(), room.kept, room.edits, room.row], [0, ((0, 0), (0, 0)), (), (1,)])

    def test_marks_by_books(self):
        for book, marks in ((VALUES, (1, 1, 1)), (REWORK, (2, 2, 2)), (SIGNALS, (2, 1, 1))):
            room = Room(book, COPIES, (0,))
            room.look(3)
            room.put(0, 3)
            self.assertEqual(tuple(mark for kept, mark in room.kept), marks)


class Change(unittest.TestCase):
    def test_what_is_unfit(self):
        room = Room(VALUES, PAIR, (1,))
        room.look(2)
        room.put(0, 0)
        before = state(room)
        for cell in (*[value for value in ODD_VALUES if value != 1 or type(value) is bool], 0, -1, 3, 4, "1", (1,),
                     [1], room):
            for formula in (0, 4, None, (0, (1,))):
                with self.assertRaises(Unfit):
                    room.change(cell, formula)
        self.assertEqual(state(room), before)
        for inputs in range(4):
            room = Room(VALUES, (inputs, (0,)), (0,) * inputs)
            for cell in range(inputs):
                with self.assertRaises(Unfit):
                    room.change(cell, 0)
            self.assertEqual(room.change(inputs, 3), 1)

    def test_formulas_that_are_none(self):
        room = Room(VALUES, PAIR, (1,))
        room.look(2)
        before = state(room)
        for cell in (1, 2):
            for formula in (*ODD_VALUES, 4, -1, (cell, (0,)), (3, (0,)), (0, ()), (0, (0,) * 5), (0, [0]), [0, (0,)],
                            (0, (0, 4)), (0, (True,)), formula_of_deep(0, 9), formula_of_parts(0, 201),
                            (0, (0, (0, (0, (cell, (1,)))))), [PAIR], room):
                error = sheet_error((1, with_item(PAIR[1], cell - 1, formula)))
                self.assertEqual(error[:2], ("formula", cell))
                with self.assertRaises(BadSheet) as caught:
                    room.change(cell, formula)
                self.assertEqual(caught.exception.error, error)
                self.assertEqual(state(room), before)

    def test_formulas_at_the_bounds(self):
        room = Room(VALUES, PAIR, (1,))
        for number, formula in enumerate((formula_of_deep(1, 8), formula_of_parts(1, 200), 3, (0, (0, 1, 2, 3))), 1):
            self.assertEqual(room.change(2, formula), number)
            self.assertEqual(room.sheet, (1, (PAIR[1][0], formula)))
            self.assertEqual(room.look(2), true_value(room.sheet, (1,), 2))

    def test_what_is_forgotten_and_marked(self):
        sheet = (1, ((0, (0, 1, 2)), (1, (0, 1, 2)), (2, (0, 1, 2)), (1, (3, 2, 1))))
        for book, direct, above in ((VALUES, 1, 1), (REWORK, 2, 2), (SIGNALS, 2, 1)):
            room = Room(book, sheet, (1,))
            self.assertEqual([room.look(cell) for cell in (3, 4)], [1, 2])
            self.assertEqual(room.change(2, (0, (2, 2, 2))), 1)
            # Nothing is kept for the cell 2, its reader has the mark of readers; who does not read it stays clean.
            self.assertEqual(room.kept, ((1, 0), (None, 0), (1, direct), (2, 0)))
            self.assertEqual([room.look(3), room.worked], [2, (1, 2, 2, 1)])
            self.assertEqual(room.change(1, 0), 2)
            # Now the cell 2 reads the input alone, so only the cell 4 reads the cell 1.
            self.assertEqual(room.kept, ((None, 0), (2, 0), (2, 0), (2, direct)))
            room = Room(book, sheet, (1,))
            room.look(3)
            room.change(1, 2)
            self.assertEqual(room.kept, ((None, 0), (1, direct), (1, above), (None, 0)))
            self.assertEqual([room.look(3), room.look(4)], [2, 1])

    def test_the_same_formula(self):
        room = Room(VALUES, PAIR, (0,))
        room.look(2)
        self.assertEqual([room.change(1, (0, (1, 0))), room.kept, room.sheet == PAIR], [1, ((None, 0), (1, 1)), True])
        self.assertEqual([room.look(2), room.worked, room.edits], [1, (2, 1), (("change", 1, (0, (1, 0))),)])

    def test_a_mark_that_the_cell_had_is_gone(self):
        for book in (VALUES, REWORK, SIGNALS, book_with(VALUES, strike="behind"), book_with(VALUES, stop="never")):
            room = Room(book, PAIR, (0,))
            room.look(2)
            room.put(0, 1)
            room.change(2, (0, (3, 2)))
            self.assertEqual(room.kept[1], (None, 0))
            self.assertEqual(room.look(2), 2)

    def test_struck_wherever_it_is_entered(self):
        # Behind the change the cell 2 reads nothing that the input marks, so it stays clean, whatever old is.
        for book in (VALUES, book_with(VALUES, old="kept"), book_with(VALUES, strike="unless", old="kept")):
            room = Room(book, (2, ((0, (0, 1)), (0, ((1, (0, 1)), 1)))), (0, 0))
            room.look(3)
            room.change(3, (2, (0, 1)))
            self.assertEqual(room.look(3), 0)
            room.put(1, 1)
            self.assertEqual(room.kept, ((0, 0), (0, 0)))
            # Nor does it get a mark ahead of the next look.
            room = Room(book, (2, ((0, (0, 1)), (0, ((1, (0, 1)), 1)))), (0, 0))
            room.look(3)
            room.change(3, (2, (0, 1)))
            room.put(1, 1)
            self.assertEqual(room.kept, ((None, 0), (None, 0)))

    def test_a_clean_cell_under_a_marked_one(self):
        # Spreading stops at the cell 2, which has a mark; what is above it has one as well.
        room = Room(VALUES, COPIES, (0,))
        room.look(3)
        room.put(0, 1)
        self.assertEqual([room.change(1, (0, (3, 2))), room.kept], [2, ((None, 0), (0, 1), (0, 1))])
        self.assertEqual(room.look(3), 2)


class Undo(unittest.TestCase):
    def test_to_the_beginning(self):
        for book in (VALUES, SIGNALS, REWORK):
            room = Room(book, COPIES, (2,))
            acts = [("put", (0, 3)), ("change", (1, 0)), ("put", (0, 0)), ("change", (1, (0, (3, 2)))),
                    ("change", (3, (0, (1,)))), ("put", (0, 0)), ("change", (1, (0, (0, 1, 2, 3))))]
            sheets = [(room.sheet, room.row, room.edits)]
            for word, arguments in acts:
                getattr(room, word)(*arguments)
                sheets.append((room.sheet, room.row, room.edits))
                room.look(3)
            for version in reversed(range(len(acts))):
                told = room.undo()
                self.assertEqual([told, type(told), room.version], [version, int, version])
                self.assertEqual((room.sheet, room.row, room.edits), sheets[version])
                self.assertEqual(room.look(3), true_value(room.sheet, room.row, 3))
            before = state(room)
            for _ in range(2):
                with self.assertRaises(NothingToUndo):
                    room.undo()
                self.assertEqual(state(room), before)
            self.assertEqual([room.put(0, 1), room.undo()], [1, 0])

    def test_it_marks_as_the_edits_do(self):
        room = Room(VALUES, PAIR, (0,))
        room.put(0, 1)
        room.look(2)
        self.assertEqual([room.undo(), room.kept, room.row], [0, ((0, 1), (0, 1)), (0,)])
        room.change(1, 2)
        room.look(2)
        self.assertEqual([room.undo(), room.kept, room.sheet == PAIR], [0, ((None, 0), (1, 1)), True])
        self.assertEqual([room.look(2), room.edits], [1, ()])

    def test_it_is_no_edit(self):
        room = Room(VALUES, PAIR, (0,))
        room.put(0, 1)
        room.put(0, 2)
        room.undo()
        self.assertEqual([room.edits, room.put(0, 3), room.edits], [
            (("put", 0, 1),), 2, (("put", 0, 1), ("put", 0, 3))])
        self.assertEqual([room.undo(), room.row, room.undo(), room.row], [1, (1,), 0, (0,)])


class ManyEdits(unittest.TestCase):
    def full(self, many=200):
        room = Room(VALUES, PAIR, (0,))
        for number in range(many):
            if number % 3:
                room.put(0, number % 4)
            else:
                room.change(1, (0, (number % 4, 1)))
        return room

    def test_200_and_one_more(self):
        room = self.full()
        self.assertEqual([room.version, len(room.edits)], [200, 200])
        room.look(2)
        before = state(room)
        for _ in range(2):
            for call in (lambda: room.put(0, 1), lambda: room.put(0, room.row[0]), lambda: room.change(2, 0),
                         lambda: room.change(1, room.sheet[1][0])):
                with self.assertRaises(TooManyEdits):
                    call()
                self.assertEqual(state(room), before)
        self.assertEqual([room.look(2), room.undo()], [true_value(room.sheet, room.row, 2), 199])
        self.assertEqual(room.change(2, 3), 200)
        with self.assertRaises(TooManyEdits):
            room.change(2, 3)

    def test_behind_the_other_errors(self):
        room = self.full()
        before = state(room)
        for cell, value in ((1, 0), (0, 4), (None, 0), (0, True)):
            with self.assertRaises(Unfit):
                room.put(cell, value)
        for cell in (0, 3, None, True):
            with self.assertRaises(Unfit):
                room.change(cell, 0)
        for formula in (4, None, (2, (0,)), []):
            with self.assertRaises(BadSheet):
                room.change(2, formula)
        self.assertEqual(state(room), before)
        room = self.full(199)
        self.assertEqual(room.put(0, 1), 200)

    def test_undo_of_all_of_them(self):
        room = self.full()
        self.assertEqual([room.undo() for _ in range(200)], list(reversed(range(200))))
        self.assertEqual((room.sheet, room.row, room.edits), (PAIR, (0,), ()))
        with self.assertRaises(NothingToUndo):
            room.undo()

    def test_edits_of_a_twin_count(self):
        room = self.full(199)
        twin = room.twin()
        self.assertEqual([twin.put(0, 1), room.version, room.put(0, 2)], [200, 199, 200])
        for one in (room, twin, twin.twin()):
            with self.assertRaises(TooManyEdits):
                one.put(0, 0)


class Twins(unittest.TestCase):
    def test_all_that_it_has(self):
        for number in range(150):
            room, dice = made_room(number, books_of_tests())
            for _ in range(dice.randrange(20)):
                word, arguments = drawn_act(dice, room)
                getattr(room, word)(*arguments)
            twin = room.twin()
            self.assertIs(type(twin), Room)
            self.assertEqual(state(twin), state(room))
            # The same is done to both of them: so what is read and entered is alike, too.
            for _ in range(15):
                word, arguments = drawn_act(dice, room)
                self.assertEqual(getattr(room, word)(*arguments), getattr(twin, word)(*arguments))
                self.assertEqual(state(twin), state(room))

    def test_its_own_way(self):
        for number in range(100):
            room, dice = made_room(1000 + number, books_of_tests())
            for _ in range(dice.randrange(10)):
                word, arguments = drawn_act(dice, room)
                getattr(room, word)(*arguments)
            one, other = room.twin(), room.twin()
            for moving, staying in ((one, (room, other)), (room, (other,))):
                before = [state(still) for still in staying]
                for _ in range(10):
                    word, arguments = drawn_act(dice, moving)
                    getattr(moving, word)(*arguments)
                self.assertEqual([state(still) for still in staying], before)
            for cell in range(other.sheet[0] + len(other.sheet[1])):
                self.assertEqual(other.look(cell), true_value(other.sheet, other.row, cell))

    def test_worked_since_the_first_one(self):
        room = Room(VALUES, PAIR, (0,))
        room.look(2)
        twin = room.twin().twin()
        twin.put(0, 1)
        self.assertEqual([twin.look(2), twin.worked, room.worked], [0, (2, 2), (1, 1)])
        self.assertEqual([twin.undo(), twin.row, twin.edits], [0, (0,), ()])

    def test_undo_of_what_was_done_ahead_of_it(self):
        room = Room(VALUES, PAIR, (0,))
        room.put(0, 3)
        room.change(2, 3)
        twin = room.twin()
        self.assertEqual([twin.undo(), twin.undo(), twin.row, twin.sheet == PAIR], [1, 0, (0,), True])
        self.assertEqual([room.version, room.row, room.look(2)], [2, (3,), 3])


class Equal(unittest.TestCase):
    def same(self, one, other, expected):
        for left, right in ((one, other), (other, one)):
            self.assertIs(left == right, expected)
            self.assertIs(left != right, not expected)

    def test_books_sheets_and_rows(self):
        room = Room(VALUES, PAIR, (0,))
        self.same(room, room, True)
        self.same(room, Room(VALUES, PAIR, (0,)), True)
        self.same(room, Room(book_with(VALUES, stop="never"), PAIR, (0,)), False)
        self.same(room, Room(VALUES, PAIR, (1,)), False)
        self.same(room, Room(VALUES, COPIES, (0,)), False)
        self.same(room, Room(VALUES, (1, PAIR[1][:1]), (0,)), False)
        self.same(Room(VALUES, (1, (0,)), (0,)), Room(VALUES, (2, (0,)), (0, 0)), False)

    def test_what_plays_no_part(self):
        room, other = Room(VALUES, PAIR, (0,)), Room(VALUES, PAIR, (0,))
        room.look(2)
        self.same(room, other, True)
        room.put(0, 0)
        self.same(room, other, True)
        room.put(0, 2)
        self.same(room, other, False)
        other.put(0, 2)
        self.same(room, other, True)
        room.change(2, 3)
        self.same(room, other, False)
        room.undo()
        self.same(room, other, True)
        other.change(2, PAIR[1][1])
        self.same(room, other, True)
        self.same(Room(VALUES, PAIR, (2,)), room, True)

    def test_other_values(self):
        room = Room(VALUES, PAIR, (0,))
        for value in (*ODD_VALUES, 0, 1, (VALUES, PAIR, (0,)), [VALUES, PAIR, (0,)], PAIR, VALUES, state(room), Room,
                      {"book": VALUES}, "Room", object()):
            self.same(room, value, False)

    def test_in_tuples_and_lists(self):
        room = Room(VALUES, PAIR, (0,))
        self.assertIn(room, [None, 0, Room(VALUES, PAIR, (0,))])
        self.assertNotIn(room, [None, 0, VALUES])
        self.assertEqual((room, 1), (room.twin(), 1))


class ReadOnly(unittest.TestCase):
    def test_attributes_can_only_be_read(self):
        room = Room(VALUES, PAIR, (0,))
        room.look(2)
        room.put(0, 1)
        before = state(room)
        for name in ATTRIBUTES:
            for value in (getattr(room, name), None, (), 0):
                with self.assertRaises(AttributeError):
                    setattr(room, name, value)
            with self.assertRaises(AttributeError):
                delattr(room, name)
        self.assertEqual(state(room), before)

    def test_reading_changes_nothing(self):
        room, twin = Room(VALUES, PAIR, (0,)), Room(VALUES, PAIR, (0,))
        for word, arguments in (("look", (2,)), ("put", (0, 1)), ("look", (1,)), ("change", (1, 0)), ("undo", ())):
            for _ in range(3):
                state(room)
                room == twin
            self.assertEqual(getattr(room, word)(*arguments), getattr(twin, word)(*arguments))
            self.assertEqual(state(room), state(twin))

    def test_what_was_read_does_not_change_later(self):
        room, dice = made_room(5, books_of_tests())
        told = []
        for _ in range(40):
            word, arguments = drawn_act(dice, room)
            getattr(room, word)(*arguments)
            told.append((state(room), repr(state(room))))
        for value, written in told:
            self.assertEqual(repr(value), written)


@functools.cache
def books_of_tests():
    """Some books that are safe for one hand, with each word that such a book may have."""
    return books_safe_alone()[::97] + (VALUES, SIGNALS, REWORK, TRACED)


class BesideASlowReckoning(unittest.TestCase):
    def check(self, room, dice, many):
        slow = SlowRoom(room.book, room.sheet, room.row)
        self.assertEqual(state(room), slow.state())
        for _ in range(many):
            word, arguments = drawn_act(dice, room)
            told = getattr(room, word)(*arguments)
            if word == "look":
                self.assertEqual(told, slow.look(*arguments))
                self.assertEqual(told, slow_walk(room.sheet, room.row, *arguments)[1])
            elif word == "undo":
                self.assertEqual(told, slow.undo())
            else:
                self.assertEqual(told, slow.edit((word,) + arguments))
            self.assertEqual(state(room), slow.state(), (word, arguments))

    def test_drawn_rooms(self):
        books = books_safe_alone()
        self.assertEqual(len(books), 10272)
        for number in range(3000):
            room, dice = made_room(number, books)
            self.check(room, dice, 25)

    def test_each_word_of_each_entry(self):
        seen = set()
        for number, book in enumerate(books_of_tests()):
            seen |= set(zip(ENTRY_NAMES, book))
            room, dice = made_room(7000 + number, [book])
            self.check(room, dice, 60)
        self.assertEqual(len(seen), 31 - 2)

    def test_large_sheets(self):
        dice = random.Random(3)
        for sheet in SHEETS[7:30]:
            self.check(Room(dice.choice(books_of_tests()), sheet, made_row(dice, sheet)), dice, 30)
        self.check(Room(VALUES, EIGHT, (0,)), dice, 60)


class WhatHolds(unittest.TestCase):
    def test_what_raises_changes_nothing(self):
        wrong = (
            ("look", (None,)), ("look", (True,)), ("look", (99,)), ("put", (99, 0)), ("put", (0, 4)), ("put", ([], {})),
            ("change", (0, 0)), ("change", (99, 0)), ("change", (None, None)),
        )
        for number in range(120):
            room, dice = made_room(20000 + number, books_of_tests())
            twin = room.twin()
            last = room.sheet[0] + len(room.sheet[1]) - 1
            for _ in range(12):
                for word, arguments in (*wrong, ("change", (last, 4)), ("change", (last, (last, (0,))))):
                    before = state(room)
                    with self.assertRaises(MarkError):
                        getattr(room, word)(*arguments)
                    self.assertEqual(state(room), before)
                if not room.edits:
                    with self.assertRaises(NothingToUndo):
                        room.undo()
                word, arguments = drawn_act(dice, room)
                self.assertEqual(getattr(room, word)(*arguments), getattr(twin, word)(*arguments))
                self.assertEqual(state(room), state(twin))

    def test_look_tells_the_true_value(self):
        books = books_safe_alone()
        for number in range(3000):
            room, dice = made_room(30000 + number, books)
            for _ in range(30):
                word, arguments = drawn_act(dice, room)
                getattr(room, word)(*arguments)
                if dice.random() < 0.3:
                    cell = dice.randrange(room.sheet[0] + len(room.sheet[1]))
                    self.assertEqual(room.look(cell), true_value(room.sheet, room.row, cell), room.book)
            for cell in range(room.sheet[0] + len(room.sheet[1])):
                self.assertEqual(room.look(cell), true_value(room.sheet, room.row, cell), room.book)

    def test_undo_leads_back(self):
        for number in range(200):
            room, dice = made_room(40000 + number, books_of_tests())
            behind = [(room.sheet, room.row)]
            for _ in range(40):
                word, arguments = drawn_act(dice, room)
                getattr(room, word)(*arguments)
                if word == "undo":
                    behind.pop()
                elif word != "look":
                    behind.append((room.sheet, room.row))
                self.assertEqual((room.sheet, room.row), behind[-1])
                self.assertEqual(room.version, len(behind) - 1)

    def test_nothing_in_vain(self):
        quick = [book for book in books_safe_alone() if no_vain(book)]
        self.assertEqual(len(quick), 2448)
        for number in range(500):
            room, dice = made_room(50000 + number, quick)
            for _ in range(20):
                word, arguments = drawn_act(dice, room)
                getattr(room, word)(*arguments)
                if word == "look":
                    worked = room.worked
                    others = [dice.randrange(room.sheet[0] + len(room.sheet[1])) for _ in range(3)]
                    room.look(*arguments)
                    self.assertEqual(room.worked, worked)
                    for cell in others:
                        room.look(cell)
                    after = room.worked
                    room.look(*arguments)
                    self.assertEqual(room.worked, after)
                    # What the others asked for may be worked out, what had been looked at not once more.
                    if arguments[0] >= room.sheet[0]:
                        spot = arguments[0] - room.sheet[0]
                        self.assertEqual(after[spot], worked[spot])

    def test_the_same_whatever_the_books_are(self):
        books = books_of_tests()
        for number in range(150):
            room, dice = made_room(60000 + number, books)
            others = [Room(dice.choice(books), room.sheet, room.row) for _ in range(3)]
            for _ in range(20):
                word, arguments = drawn_act(dice, room)
                told = getattr(room, word)(*arguments)
                self.assertEqual([getattr(other, word)(*arguments) for other in others], [told] * 3)


class Calls(unittest.TestCase):
    def test_room_by_place_and_by_name(self):
        def made(book, sheet, row):
            return state(Room(book, sheet, row)), state(Room(row=row, sheet=sheet, book=book))
        for book, sheet, row in itertools.product(
                (VALUES, SIGNALS, NEVER, None, [*VALUES]), (PAIR, TWO, None, [1, (0,)]), ((0,), (4,), None, [0])):
            check_calls(self, made, book=book, sheet=sheet, row=row)
            by_names = outcome(lambda: state(Room(row=row, book=book, sheet=sheet)), (), {})
            self.assertEqual(outcome(lambda: state(Room(book, sheet, row)), (), {}), by_names)

    def test_methods_by_place_and_by_name(self):
        def done(word, **arguments):
            def call(*places, **names):
                room = Room(VALUES, PAIR, (1,))
                room.look(2)
                room.put(0, 0)
                return getattr(room, word)(*places, **names), state(room)
            check_calls(self, call, **arguments)
        for value in (*ODD_VALUES, 0, 1, 2, 3, (0, (3, 2)), (1, (0,)), (2, (0,))):
            done("look", cell=value)
            for other in (0, 1, 2, None, (0, (3, 2))):
                done("put", x=value, v=other)
                done("change", cell=other, formula=value)
        done("undo")

    def test_twin_and_undo_take_nothing(self):
        room = Room(VALUES, PAIR, (1,))
        for method in (room.twin, room.undo):
            with self.assertRaises(TypeError):
                method(1)

    def test_equal_rooms_do_the_same(self):
        for number in range(30):
            room, dice = made_room(80000 + number, [made_book(random.Random(1)), VALUES][1:])
            again = Room(book=room.book, sheet=room.sheet, row=room.row)
            for _ in range(15):
                word, arguments = drawn_act(dice, room)
                self.assertEqual(getattr(room, word)(*arguments), getattr(again, word)(*arguments))
                self.assertEqual(state(room), state(again))

    def test_what_is_handed_in_is_not_changed(self):
        book, row = list(VALUES), [0]
        for arguments in ((book, PAIR, (0,)), (VALUES, [1, [0]], (0,)), (VALUES, PAIR, row)):
            before = repr(arguments)
            with self.assertRaises(MarkError):
                Room(*arguments)
            self.assertEqual(repr(arguments), before)
        self.assertIn(COPY, (COPY,))
