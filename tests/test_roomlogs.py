"""J3, and J4 as far as it speaks of logs: the texts of logs, and the rooms behind them."""

import random
import re
import unittest

from keptmarks.asking import true_value
from keptmarks.errors import BadBook, BadLog, BadSheet, BadText, MarkError, Unfit
from keptmarks.roomlogs import log_text, read_log, room_behind
from keptmarks.rooms import Room
from keptmarks.sheets import sheet_error
from tests.samples import (
    EIGHT, NEVER, ODD_VALUES, PAIR, REWORK, SIGNALS, VALUES, book_with, check_calls, formula_of_deep, formula_of_parts,
    made_formula, outcome, with_item,
)
from tests.test_rooms import books_of_tests, drawn_act, made_room, state
from tests.test_sheettexts import slow_formula, written

LOG = (("put", 0, 3), ("change", 2, (1, (3, (0, (0, 0, 0, 2))))))
TEXT = "put 0 3\nchange 2 c1(3, c0(0, 0, 0, 2))\n"


def slow_line(edit):
    """The text of an edit, part by part."""
    if edit[0] == "put":
        return "put " + "012"[edit[1]] + " " + "0123"[edit[2]]
    return "change " + str(edit[1]) + " " + written(edit[2])


def slow_edit(line):
    """The edit of which a line is the text, by way of how Python writes formulas; None if there is none."""
    if re.fullmatch(r"put [0-2] [0-3]", line):
        return "put", int(line[4]), int(line[6])
    found = re.fullmatch(r"change (0|[1-9]|10) (.+)", line)
    if not found:
        return None
    cell, formula = int(found[1]), slow_formula(found[2])
    # As the last formula of a sheet with so many cells ahead.
    inputs = min(cell, 3)
    if formula is None or sheet_error((inputs, (0,) * (cell - inputs) + (formula,))):
        return None
    return ("change", cell, formula) if slow_line(("change", cell, formula)) == line else None


def slow_log(text):
    """The log of which this is the text, or the number of the first wrong line."""
    lines = text.split("\n")
    lines = lines[:-1] if lines[-1] == "" else lines
    for number, line in enumerate(lines):
        if number == 200 or slow_edit(line) is None:
            return number
    return tuple(slow_edit(line) for line in lines)


def made_log(dice, many):
    """A drawn log of so many edits, whether or not they can be done."""
    log = []
    for _ in range(many):
        if dice.random() < 0.5:
            log.append(("put", dice.randrange(3), dice.randrange(4)))
        else:
            cell = dice.randrange(11)
            log.append(("change", cell, made_formula(dice, cell, dice.randrange(5), [30])))
    return tuple(log)


class Texts(unittest.TestCase):
    def wrong(self, value, line):
        with self.assertRaises(BadText) as caught:
            read_log(value)
        self.assertEqual(caught.exception.line, line, repr(value)[:200])
        self.assertIs(type(caught.exception.line), int)

    def check(self, text):
        told = slow_log(text)
        if isinstance(told, int):
            self.wrong(text, told)
        else:
            self.assertEqual(repr(read_log(text)), repr(told), text[:200])


class Examples(Texts):
    def test_edits_of_a_room(self):
        s = Room(VALUES, PAIR, (0,))
        self.assertEqual([s.put(*LOG[0][1:]), s.change(*LOG[1][1:]), s.edits], [1, 2, LOG])
        self.assertEqual([log_text(s.edits), log_text(())], [TEXT, ""])
        self.assertEqual(read_log(log_text(s.edits)), s.edits)
        self.assertEqual(read_log("put 2 0"), (("put", 2, 0),))
        self.assertEqual([room_behind(VALUES, PAIR, (0,), s.edits) == s, s.look(2)], [True, 3])

    def test_wrong_ones(self):
        self.wrong("put 0 3\nput 0 4\n", 1)
        self.wrong("change 2 c2(0)", 0)
        with self.assertRaises(BadLog) as caught:
            room_behind(VALUES, PAIR, (0,), (("put", 0, 1), ("change", 0, 1)))
        self.assertEqual(caught.exception.place, 1)
        with self.assertRaises(BadLog) as caught:
            room_behind(VALUES, PAIR, (0,), [])
        self.assertEqual(caught.exception.place, 0)


class ThereAndBack(Texts):
    def test_drawn_logs(self):
        for number in range(150):
            dice = random.Random(number)
            log = made_log(dice, dice.choice((0, 1, 2, 7, 30, 199, 200)))
            text = log_text(log)
            self.assertEqual(text, "".join(slow_line(edit) + "\n" for edit in log))
            self.assertEqual(repr(read_log(text)), repr(log))
            self.assertIs(type(read_log(text)), tuple)
            if log:
                self.assertEqual(read_log(text[:-1]), log)

    def test_all_puts_and_each_cell(self):
        for x in range(3):
            for v in range(4):
                self.assertEqual(log_text((("put", x, v),)), f"put {x} {v}\n")
                self.assertEqual(repr(read_log(f"put {x} {v}\n")), repr((("put", x, v),)))
        for cell in range(11):
            for other in range(cell):
                edit = ("change", cell, (other, (0, 1, 2, 3)))
                self.assertEqual(log_text((edit,)), f"change {cell} c{other}(0, 1, 2, 3)\n")
                self.assertEqual(read_log(log_text((edit,))), (edit,))
            for v in range(4):
                self.assertEqual(repr(read_log(f"change {cell} {v}\n")), repr((("change", cell, v),)))

    def test_large_formulas(self):
        for cell in (1, 10):
            log = (("change", cell, formula_of_parts(0, 200)), ("change", cell, formula_of_deep(cell - 1, 8)))
            self.assertEqual(read_log(log_text(log)), log)

    def test_no_edits(self):
        self.assertEqual([log_text(()), read_log("")], ["", ()])

    def test_edits_of_drawn_rooms(self):
        for number in range(150):
            room, dice = made_room(number, books_of_tests())
            for _ in range(dice.randrange(30)):
                word, arguments = drawn_act(dice, room)
                getattr(room, word)(*arguments)
            self.assertEqual(read_log(log_text(room.edits)), room.edits)


class WrongTexts(Texts):
    def test_no_string(self):
        for value in (*ODD_VALUES, LOG, list(LOG), [TEXT], (TEXT,), 0, 1, b"put 0 1"):
            if type(value) is not str:
                self.wrong(value, 0)

    def test_odd_strings(self):
        for value in (" ", "\n", "x", "0" * 20000, "\n" * 20000, "put", "put ", "change", "change ", "log", "put 0",
                      "undo", "look 1"):
            self.wrong(value, 0)
            self.wrong("put 0 1\n" + value + "\nx", 1)

    def test_lines_of_puts(self):
        for line in ("put 3 0", "put 0 4", "put -1 0", "put 0 -1", "put 00 1", "put 0 01", "put  0 1", "put 0  1",
                     "put 0 1 ", " put 0 1", "Put 0 1", "PUT 0 1", "put0 1", "put 01", "put 0,1", "put 0 1 2",
                     "put 0 +1", "put 0 x", "put x 0", "put 0\t1", "put 0 1\r", "put 10 1", "put 0 10", "puts 0 1",
                     "put 0 1.", "put 0 None", "put True 1", "put 0 c0(1)"):
            self.wrong(line, 0)
            self.wrong(TEXT + line, 2)
            self.wrong(TEXT + line + "\n" + TEXT, 2)

    def test_lines_of_changes(self):
        for line in ("change 11 0", "change -1 0", "change 01 0", "change 1 00", "change  1 0", "change 1  0",
                     "change 1 0 ", " change 1 0", "Change 1 0", "change1 0", "change 1", "change 1 ", "change 0 c0(1)",
                     "change 1 c1(0)", "change 1 c2(0)", "change 10 c10(0)", "change 10 c11(0)", "change 1 c0()",
                     "change 1 c0(0", "change 1 c0(0))", "change 1 c0(0,1)", "change 1 c0(0,  1)", "change 1 4",
                     "change 1 c0(0, 1, 2, 3, 0)", "change 1 c0(4)", "change 1 (0)", "change 1 c00(0)", "change 1 None",
                     "change x 0", "change 1 x", "change 1 c0(c1(0))", "change 2 c1(c2(0), 1)", "change c1 0",
                     "change 1 c0 (0)", "change 1 = 0", "change 100 0", "change 1 0\r"):
            self.wrong(line, 0)
            self.wrong(TEXT + line, 2)
            self.wrong(TEXT + line + "\n" + TEXT, 2)

    def test_bounds_of_formulas(self):
        for formula in (formula_of_parts(0, 201), formula_of_deep(0, 9), (0, (0,) * 5), (5, (0,))):
            self.wrong("change 5 " + written(formula), 0)
        for formula in (formula_of_parts(0, 200), formula_of_deep(0, 8), (4, (0,) * 4)):
            self.assertEqual(read_log("change 5 " + written(formula)), (("change", 5, formula),))

    def test_numbers_with_thousands_of_figures(self):
        for many in (2, 100, 4000, 4301, 15000):
            for figure in "01":
                number = figure * many
                for line in ("put " + number + " 0", "put 0 " + number, "change " + number + " 0",
                             "change 1 " + number, "change 1 c" + number + "(0)"):
                    self.wrong(line, 0)
                    self.wrong("put 0 1\n" + line, 1)

    def test_thousands_of_signs(self):
        for sign in "()c0, x-":
            for head in ("put ", "put 0 ", "change ", "change 1 ", "change 1 c0(", ""):
                self.wrong(head + sign * 15000, 0)
        for many in (9, 1000, 6000):
            self.wrong("change 1 " + "c0(" * many + "1" + ")" * many, 0)

    def test_empty_lines_and_the_last_line_feed(self):
        self.assertEqual(read_log(TEXT[:-1]), LOG)
        self.wrong(TEXT + "\n", 2)
        self.wrong("\n" + TEXT, 0)
        self.wrong("put 0 3\n\nput 0 2\n", 1)
        self.wrong("\n\n", 0)
        self.wrong(TEXT.replace("\n", "\r\n"), 0)

    def test_200_lines_and_201(self):
        for line in ("put 0 1", "change 10 c9(1)"):
            text = (line + "\n") * 200
            self.assertEqual(len(read_log(text)), 200)
            self.assertEqual(len(read_log(text[:-1])), 200)
            for more in (line, line + "\n", "x", "\n", (line + "\n") * 100):
                self.wrong(text + more, 200)
            self.wrong("x\n" + text, 0)
            self.wrong((line + "\n") * 150 + "x\n" + text, 150)

    def test_one_sign_left_out_put_in_exchanged_or_doubled(self):
        for text in (TEXT, "put 2 0\nput 1 3", "change 10 c9(c1(0), 2)\nchange 1 0\n", "change 3 c2(1, c0(2, 3), 1)"):
            for at in range(len(text) + 1):
                self.check(text[:at] + text[at + 1:])
                self.check(text[:at] + text[at:at + 1] * 2 + text[at + 1:])
                self.check(text[:at] + text[at + 1:at + 2] + text[at:at + 1] + text[at + 2:])
                self.check(text[:at])
                for sign in "0145c(), =\nputchange-+_":
                    self.check(text[:at] + sign + text[at:])
                    self.check(text[:at] + sign + text[at + 1:])

    def test_drawn_lines_exchanged(self):
        for number in range(100):
            dice = random.Random(number)
            lines = log_text(made_log(dice, 12)).split("\n")[:-1]
            place = dice.randrange(12)
            lines[place] = lines[place].replace(dice.choice("0123c ("), dice.choice(("4", "c1", "", "  ", "(")), 1)
            self.check("\n".join(lines))


class RoomBehind(unittest.TestCase):
    def bad(self, place, value, sheet=PAIR, row=(0,)):
        with self.assertRaises(BadLog) as caught:
            room_behind(VALUES, sheet, row, value)
        self.assertEqual(caught.exception.place, place, repr(value)[:200])
        self.assertIs(type(caught.exception.place), int)

    def test_a_new_room_with_the_edits_done(self):
        room = room_behind(VALUES, PAIR, (0,), LOG)
        self.assertIs(type(room), Room)
        self.assertEqual(state(room)[1:6], ((1, (PAIR[1][0], LOG[1][2])), (3,), LOG, 2, (0, 0)))
        self.assertEqual([room.look(2), room.undo(), room.undo(), room.row, room.sheet == PAIR], [3, 1, 0, (0,), True])
        self.assertEqual(room_behind(VALUES, PAIR, (0,), ()), Room(VALUES, PAIR, (0,)))

    def test_what_room_raises_ahead_of_all(self):
        for value in (LOG, (), [], None, (None,), (("put", 9, 9),)):
            for book, error, fields in (
                    (None, BadBook, {"error": "form"}), (NEVER, BadBook, {"error": ("slip", 1)}),
                    (with_item(VALUES, 11, "two"), BadBook, {"error": "hands"})):
                with self.assertRaises(error) as caught:
                    room_behind(book, PAIR, (0,), value)
                self.assertEqual(vars(caught.exception), fields)
            with self.assertRaises(BadSheet) as caught:
                room_behind(VALUES, (1, ()), (0,), value)
            self.assertEqual(caught.exception.error, "many")
            for row in ((4,), (), [0], None, (True,)):
                with self.assertRaises(Unfit):
                    room_behind(VALUES, PAIR, row, value)

    def test_what_is_no_tuple(self):
        for value in (*ODD_VALUES, list(LOG), [], {}, TEXT, 0, Room(VALUES, PAIR, (0,))):
            if type(value) is not tuple:
                self.bad(0, value)

    def test_items_that_are_no_edits(self):
        good = ("put", 0, 1)
        for item in (*ODD_VALUES, list(good), good[:2], good + (0,), ("put",), ("Put", 0, 1), ("undo", 0, 1),
                     ("look", 1, 0), ("set", 0, 1), (None, 0, 1), (["put"], 0, 1), ((), 0, 1), ("put ", 0, 1),
                     ("change", 1), ("change", 1, 0, 0), ["change", 1, 0], ("twin", 0, 1), "put", "abc", ("", 1, 0)):
            for place in (0, 1, 5):
                self.bad(place, (good,) * place + (item,))
                self.bad(place, (good,) * place + (item, good, None))

    def test_edits_that_raise(self):
        good = ("change", 1, (0, (0, 1)))
        for item in (("put", 1, 0), ("put", -1, 0), ("put", 0, 4), ("put", 0, True), ("put", False, 0),
                     ("put", None, 0), ("put", 0, None), ("put", [0], 0), ("put", 0, "1"), ("change", 0, 0),
                     ("change", 3, 0), ("change", True, 0), ("change", None, 0), ("change", 1, 4), ("change", 1, None),
                     ("change", 1, (1, (0,))), ("change", 2, (2, (0,))), ("change", 1, [0]), ("change", 1, (0, ())),
                     ("change", 1, formula_of_deep(0, 9)), ("change", 1, formula_of_parts(0, 201))):
            for place in (0, 1, 7):
                self.bad(place, (good,) * place + (item,))
                self.bad(place, (good,) * place + (item, good, None))

    def test_200_edits_and_201(self):
        for edit in (("put", 0, 1), ("change", 2, 3)):
            self.assertEqual(room_behind(VALUES, PAIR, (0,), (edit,) * 200).version, 200)
            self.bad(200, (edit,) * 201)
            self.bad(200, (edit,) * 1000)
            self.bad(200, (edit,) * 200 + (None,))
            self.bad(199, (edit,) * 199 + (None, edit))

    def test_edits_that_hang_on_those_ahead(self):
        # What may be read hangs on the cell alone, so a log that can be done on the one sheet can on others like it.
        log = (("change", 8, (7, (0, 1))), ("put", 0, 2), ("change", 1, (0, (3, 2, 1))))
        room = room_behind(VALUES, EIGHT, (0,), log)
        self.assertEqual([room.look(1), room.look(8)], [1, 1])
        self.bad(0, log, (1, (0,)))
        self.bad(2, log[1:] + log[:1], (1, (0,)))

    def test_errors_of_read_logs_are_not_raised_here(self):
        # An edit with a cell or a value beyond what any sheet has is just one that raises.
        self.bad(0, (("put", 99, 99),))
        self.bad(0, (("change", 99, 0),))


class WhatHolds(unittest.TestCase):
    def test_room_behind_of_edits_is_equal(self):
        for number in range(250):
            room, dice = made_room(number, books_of_tests())
            first = room.book, room.sheet, room.row
            for _ in range(dice.randrange(50)):
                word, arguments = drawn_act(dice, room)
                getattr(room, word)(*arguments)
            again = room_behind(*first, room.edits)
            self.assertEqual(again, room)
            self.assertEqual((again.sheet, again.row, again.edits), (room.sheet, room.row, room.edits))
            self.assertEqual(read_log(log_text(room.edits)), room.edits)
            for cell in range(first[1][0] + len(first[1][1])):
                told = true_value(room.sheet, room.row, cell)
                self.assertEqual([again.look(cell), room.look(cell)], [told, told])

    def test_drawn_logs_on_drawn_sheets(self):
        found = {}
        for number in range(400):
            room, dice = made_room(5000 + number, books_of_tests())
            log = made_log(dice, dice.randrange(4))
            expected, place = room.twin(), None
            for at, (word, *arguments) in enumerate(log):
                try:
                    getattr(expected, word)(*arguments)
                except MarkError:
                    place = at
                    break
            found[place] = found.get(place, 0) + 1
            if place is None:
                self.assertEqual(state(room_behind(room.book, room.sheet, room.row, log)), state(expected))
            else:
                with self.assertRaises(BadLog) as caught:
                    room_behind(room.book, room.sheet, room.row, log)
                self.assertEqual(caught.exception.place, place)
        self.assertLessEqual({None, 0, 1, 2}, set(found))


class Calls(unittest.TestCase):
    def test_by_place_and_by_name(self):
        for log in (LOG, (), made_log(random.Random(1), 50)):
            check_calls(self, log_text, log=log)
            check_calls(self, read_log, value=log_text(log))
        for value in (*ODD_VALUES, LOG, TEXT + "\n", "put 0 4"):
            check_calls(self, read_log, value=value)

    def test_room_behind_by_place_and_by_name(self):
        def made(book, sheet, row, value):
            room = room_behind(row=row, value=value, book=book, sheet=sheet)
            assert state(room) == state(room_behind(book, sheet, row, value))
            return state(room)
        for value in (LOG, (), [], LOG + (None,), (("put", 9, 0),)):
            for book, sheet, row in (
                    (VALUES, PAIR, (0,)), (NEVER, PAIR, (0,)), (SIGNALS, None, 1), (REWORK, PAIR, [0])):
                check_calls(self, made, book=book, sheet=sheet, row=row, value=value)
                told = outcome(lambda: state(room_behind(book, sheet, row, value)), (), {})
                self.assertEqual(outcome(made, (book, sheet, row, value), {}), told)

    def test_rooms_of_equal_calls_go_their_own_ways(self):
        one, other = (room_behind(book_with(VALUES, old="kept"), PAIR, (0,), LOG) for _ in range(2))
        one.put(0, 1)
        self.assertEqual([other.row, other.edits, one.version], [(3,), LOG, 3])
