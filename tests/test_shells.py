"""K1 and K2: a shell, what lines are answered by, and what holds of it."""

import random
import re
import unittest

from keptmarks.asking import true_value
from keptmarks.books import altered, book_at, book_error, book_number
from keptmarks.comparing import hasty, is_quiet
from keptmarks.errors import MarkError
from keptmarks.knownbooks import known_book, known_names
from keptmarks.onehand import slip_alone
from keptmarks.roomlogs import log_text
from keptmarks.rooms import Room
from keptmarks.safety import safe
from keptmarks.sheettexts import read_sheet, sheet_text
from keptmarks.shells import Shell
from tests.samples import (
    COPIES, ENTRY_NAMES, ENTRY_WORDS, ODD_VALUES, PAIR, REWORK, SHEETS, SIGNALS, VALUES, book_with, check_calls,
    made_book, made_lively_sheet, some_books,
)
from tests.test_roomlogs import slow_edit, slow_line
from tests.test_rooms import books_of_tests, drawn_act

SHEET = "sheet inputs 1\nc1 = c0(1, 0)\nc2 = c1(0, 1)"
# Lines that ask for a room.
ROOM_LINES = (
    "again", "undo", "row", "worked", "kept", "show", "log", "look 0", "look 2", "look 99999", "put 0 1", "put 0 9",
    "put ", "put x", "change 1 0", "change 1 x", "change ", "change  1 0")
# Lines that are none, whether there is a room or not.
NO_LINES = (
    "", " ", "\n", "what", "Judge", "JUDGE", "judge ", " judge", "judge\n", "judge judge", "judges", "judg", "entries ",
    "Entries", "hasty ", "Hasty", "known", "known ", "known  values", "known values ", " known values", "known Values",
    "known values\n", "known values early", "known 5", "known val-ues", "Known values", "known_values", "number",
    "number ", "number  5", "number 5 ", "number 05", "number 00", "number 007", "number +5", "number -5", "number 5.",
    "number 100000", "number 123456", "number x", "number 1 2", "number five", "Number 5", "number 5\n", "entry",
    "entry ", "entry hands", "entry hands ", "entry  hands any", "entry hands  any", "entry hands any ",
    "entry hands any one", "entry Hands any", "entry hands Any", "entry 0 any", "entry hands 1", "Entry hands any",
    "entry hands any\n", "book", "book ", "book sure", "book " + " ".join(["sure"] * 11),
    "book " + " ".join(["sure"] * 13), "book " + " ".join(VALUES) + " ", "book  " + " ".join(VALUES),
    "book " + "  ".join(VALUES), "Book " + " ".join(VALUES),
    "book " + " ".join(VALUES[:11]) + " One", "book " + " ".join(VALUES[:11]) + " 1", "book " + " ".join(VALUES) + "\n",
    " ".join(VALUES), "sheet", "sheets", "Sheet inputs 0\nc0 = 1", "sheet\ninputs 0", " sheet inputs 0\nc0 = 1",
    "again ", " again", "again\n", "Again", "put", "Put 0 1", " put 0 1", "puts 0 1", "put\n0 1", "change",
    "Change 1 0", " change 1 0", "undo ", "undo 1", "Undo", "undo\n", "look", "look ", "look  2", "look 2 ", " look 2",
    "look 02", "look 00", "look +2", "look -1", "look 2.", "look x", "look 1 2", "look 100000", "Look 2", "look 2\n",
    "look two", "row ", "row 0", "Row", "worked ", "Worked", "kept ", "Kept", "kept 1", "show ", "Show", "log ", "Log",
    "log\n", "twin", "version", "look " + "1" * 5000, "number " + "0" * 5000, "look " + "9" * 15000, "x" * 20000,
    " " * 20000, "\n" * 20000, "known " + "a b" * 3000, "look\n2", "row\nrow")


def judged(book):
    """What judge answers of a book."""
    if safe(book):
        return "safe"
    number = slip_alone(book)
    return "alone" if number is None else "slip " + str(number)


class SlowShell:
    """What a shell answers, line by line by patterns, over the package's rooms."""

    def __init__(self):
        self.book = VALUES
        self.room = None

    def say(self, line):
        if not isinstance(line, str):
            return "what"
        asks = re.fullmatch(
            r"(again|undo|row|worked|kept|show|log|look (0|[1-9][0-9]{0,4})|(put|change) (.|\n)*)", line)
        if asks and self.room is None:
            return "no room"
        if line.startswith(("put ", "change ")) and slow_edit(line) is None:
            return "error BadText"
        try:
            return self.answer(line)
        except MarkError as error:
            return "error " + type(error).__name__

    def answer(self, line):
        word, _, rest = line.partition(" ")
        words = rest.split(" ")
        number = re.fullmatch(r"(number|look) (0|[1-9][0-9]{0,4})", line)
        if line.startswith("sheet "):
            sheet = read_sheet(rest)
            self.room = Room(self.book, sheet, (0,) * sheet[0])
            return "room"
        if line == "again":
            self.room = Room(self.book, self.room.sheet, self.room.row)
            return "room"
        if word in ("put", "change") and rest != "" or line in ("put ", "change "):
            name, *arguments = slow_edit(line)
            return "version " + str(getattr(self.room, name)(*arguments))
        if number and word == "look":
            return "0123"[self.room.look(int(rest))]
        told = {
            "judge": lambda: judged(self.book), "entries": lambda: " ".join(self.book),
            "hasty": lambda: " ".join(hasty(self.book)) or "none",
            "undo": lambda: "version " + str(self.room.undo()),
            "row": lambda: " ".join(str(value) for value in self.room.row) or "none",
            "worked": lambda: " ".join(str(many) for many in self.room.worked),
            "kept": lambda: " ".join(("-" if kept is None else str(kept)) + ["", "?", "!"][mark]
                                     for kept, mark in self.room.kept),
            "show": lambda: sheet_text(self.room.sheet), "log": lambda: log_text(self.room.edits),
        }
        if line in told:
            return told[line]()
        if number:
            self.book = book_at(int(rest))
        elif re.fullmatch(r"known [a-z]+", line):
            self.book = known_book(rest)
        elif re.fullmatch(r"entry [a-z]+ [a-z]+", line):
            self.book = altered(self.book, *words)
        elif re.fullmatch(r"book( [a-z]+){12}", line):
            if book_error(tuple(words)) is not None:
                return "error BadBook"
            self.book = tuple(words)
        else:
            return "what"
        return judged(self.book)


def line_of_act(word, arguments):
    """The line of a look, an edit or undo."""
    if word == "look":
        return "look " + str(arguments[0])
    return "undo" if word == "undo" else slow_line((word,) + arguments)


def drawn_line(dice, slow):
    """A drawn line: mostly one that can be done, sometimes with a sign changed."""
    draw = dice.random()
    if slow.room is not None and draw < 0.5:
        line = line_of_act(*drawn_act(dice, slow.room))
    elif draw < 0.58:
        line = "sheet " + sheet_text(made_lively_sheet(dice, 4))
    elif draw < 0.66:
        line = "entry " + dice.choice((
            "hands one", "hands any", "change none", "perhaps check", "sure work", "stop never", "readers sure",
            "readers perhaps", "further none", "old kept", "strike behind"))
    elif draw < 0.72:
        line = "known " + dice.choice(known_names() + ("nobody",))
    elif draw < 0.76:
        line = "number " + str(dice.choice((0, 69983, 69984, 99999, dice.randrange(69984))))
    elif draw < 0.8:
        line = "book " + " ".join(dice.choice((VALUES, SIGNALS, REWORK, made_book(dice))))
    else:
        line = dice.choice((
            "judge", "entries", "hasty", "again", "undo", "row", "worked", "kept", "show", "log", "look 0", "look 9",
            "put 0 3", "put 2 0", "change 2 0", "change 0 0"))
    if dice.random() < 0.12:
        at = dice.randrange(len(line) + 1)
        line = line[:at] + dice.choice(("", " ", "0", "x", "\n", "(")) + line[at + dice.randrange(2):]
    return line


class Lines(unittest.TestCase):
    def said(self, shell, *lines):
        return [shell.say(line) for line in lines]

    def state(self, shell):
        """All that lines tell of a shell without changing it."""
        return self.said(shell, "judge", "entries", "hasty", "row", "worked", "kept", "show", "log")

    def shells(self):
        """A new shell, one with a room, and one with a room and another present book."""
        one, two, three = Shell(), Shell(), Shell()
        self.assertEqual(self.said(two, SHEET, "look 2", "put 0 1"), ["room", "1", "version 1"])
        self.assertEqual(self.said(three, SHEET, "known stale", "change 1 2"), ["room", "slip 2", "version 1"])
        return one, two, three


class Examples(Lines):
    def test_all_of_them(self):
        s = Shell()
        self.assertEqual(
            self.said(s, "judge", "known late", "entry strike ahead", "entry hands any", "known stale", "number 56088",
                      "known untold", "look 2", "again"),
            ["safe", "alone", "safe", "alone", "slip 2", "safe", "slip 3", "no room", "no room"])
        self.assertEqual(
            self.said(s, SHEET, "known values", "sheet inputs 1", SHEET),
            ["error BadBook", "safe", "error BadText", "room"])
        self.assertEqual(
            self.said(s, "kept", "look 2", "put 0 1", "kept", "look 2", "worked", "undo", "kept", "row", "undo"),
            ["- -", "1", "version 1", "1? 1?", "0", "2 2", "version 0", "0? 0?", "0", "error NothingToUndo"])
        self.assertEqual(
            self.said(s, "change 1 c0(0, 1)", "kept", "look 2", "show", "log", "put 1 0", "put 0 4", "change 2 c2(0)",
                      "look 3"),
            ["version 1", "- 0?", "0", "inputs 1\nc1 = c0(0, 1)\nc2 = c1(0, 1)", "change 1 c0(0, 1)\n", "error Unfit",
             "error BadText", "error BadText", "error Unfit"])
        self.assertEqual(
            self.said(s, "hasty", "known rework", "hasty", "again", "worked", "kept", "look 2", "put 0 3", "kept",
                      "log"),
            ["none", "safe", "written further both changed every", "room", "0 0", "- -", "0", "version 1", "0! 0!",
             "put 0 3\n"])
        self.assertEqual(
            self.said(s, "known signals", "hasty", "known Signals", "known nobody", "number 70000", "number 007",
                      "entry hands two", "book sure", "look  2", "Judge", 5),
            ["safe", "error Unfit", "what", "error Unfit", "error Unfit", "what", "error Unfit", "what", "what", "what",
             "what"])
        self.assertEqual(
            self.said(s, "entries", "book " + " ".join(["sure"] * 12), "judge"),
            ["sure perhaps marked check work mark sure first ahead ahead struck one", "error BadBook", "safe"])


class Books(Lines):
    def test_a_new_shell(self):
        self.assertEqual(
            self.said(Shell(), "judge", "entries", "hasty", "kept"), ["safe", " ".join(VALUES), "none", "no room"])
        self.assertEqual(self.said(Shell(), "entry hands any", "entries"), [
            "alone", " ".join(book_with(VALUES, hands="any"))])

    def test_judge_and_entries_of_many_books(self):
        s = Shell()
        for book in some_books(199):
            expected = judged(book)
            self.assertEqual(
                self.said(s, f"number {book_number(book)}", "judge", "entries"), [expected, expected, " ".join(book)])
            expected = " ".join(hasty(book)) or "none" if is_quiet(book) else "error Unfit"
            self.assertEqual(s.say("hasty"), expected)
            self.assertEqual(self.said(s, "known values", "book " + " ".join(book), "entries"), [
                "safe", judged(book), " ".join(book)])

    def test_each_number_of_slip_alone(self):
        s = Shell()
        for words, told in (("further none", "slip 1"), ("further perhaps", "safe"), ("perhaps answer", "slip 2"),
                            ("perhaps check", "safe"), ("check mark", "slip 3"), ("check values", "safe"),
                            ("write last", "alone"), ("write between", "safe"), ("enter behind", "alone"),
                            ("change sure", "slip 5"), ("stop never", "alone"), ("sure check", "alone"),
                            ("perhaps work", "alone"), ("check mark", "slip 4"), ("strike behind", "alone"),
                            ("enter ahead", "alone"), ("strike unless", "safe")):
            self.assertEqual(s.say("entry " + words), told, words)

    def test_known_books(self):
        s = Shell()
        for name in known_names():
            self.assertEqual(self.said(s, "known " + name, "entries"), [
                judged(known_book(name)), " ".join(known_book(name))])
        for name in ("nobody", "value", "valuess", "know", "sure", "a", "z" * 5000):
            before = self.state(s)
            self.assertEqual(s.say("known " + name), "error Unfit")
            self.assertEqual(self.state(s), before)

    def test_numbers(self):
        s = Shell()
        for number in (0, 9, 10, 99, 100, 999, 9999, 10000, 32544, 69983):
            self.assertEqual(self.said(s, f"number {number}", "entries"), [
                judged(book_at(number)), " ".join(book_at(number))])
        for number in (69984, 70000, 99999):
            self.assertEqual(self.said(s, f"number {number}", "entries"), ["error Unfit", " ".join(book_at(69983))])
        for number in (100000, 10 ** 50):
            self.assertEqual(s.say(f"number {number}"), "what")

    def test_each_entry_with_each_word(self):
        s = Shell()
        words = sorted({word for words in ENTRY_WORDS for word in words} | set(ENTRY_NAMES) | {"two", "x"})
        for place, name in enumerate(ENTRY_NAMES):
            for word in words:
                s.say("known signals")
                told = s.say(f"entry {name} {word}")
                if word in ENTRY_WORDS[place]:
                    book = book_with(SIGNALS, **{name: word})
                    self.assertEqual([told, s.say("entries")], [judged(book), " ".join(book)])
                else:
                    self.assertEqual([told, s.say("entries")], ["error Unfit", " ".join(SIGNALS)])
        for name in ("hand", "handss", "x"):
            self.assertEqual(s.say(f"entry {name} one"), "error Unfit")

    def test_twelve_words(self):
        s = Shell()
        for place in range(12):
            words = list(SIGNALS)
            words[place] = "x"
            self.assertEqual(self.said(s, "book " + " ".join(words), "entries"), ["error BadBook", " ".join(VALUES)])
        self.assertEqual(s.say("book " + " ".join("x" * 12)), "error BadBook")


class Rooms(Lines):
    def test_sheets(self):
        s = Shell()
        for sheet in SHEETS[:30]:
            text = sheet_text(sheet)
            inputs, formulas = sheet
            self.assertEqual(
                self.said(s, "sheet " + text, "show", "row", "worked", "kept", "log"),
                ["room", text, " ".join("0" * inputs) or "none", " ".join("0" * len(formulas)),
                 " ".join("-" * len(formulas)), ""])

    def test_texts_that_are_none(self):
        for s in self.shells():
            before = self.state(s)
            for text in ("", " ", "inputs 1", "inputs 4\nc4 = 0", "inputs 0\nc0 = 0\n", " inputs 0\nc0 = 0", "x", "\n",
                         "inputs 1\nc1 = c1(0)", "inputs 01\nc1 = 0", "inputs 0\nc0 = 4", "0" * 15000):
                self.assertEqual(s.say("sheet " + text), "error BadText")
                self.assertEqual(self.state(s), before)

    def test_bad_text_ahead_of_bad_book(self):
        s = Shell()
        self.assertEqual(
            self.said(s, "known stale", "sheet inputs 1", SHEET, "kept"),
            ["slip 2", "error BadText", "error BadBook", "no room"])

    def test_a_room_keeps_the_book_that_it_was_made_with(self):
        s = Shell()
        told = self.said(s, SHEET, "look 2", "known rework", "put 0 1", "kept", "look 2", "kept", "hasty")
        self.assertEqual(told, ["room", "1", "safe", "version 1", "1? 1?", "0", "0 0",
                                "written further both changed every"])
        told = self.said(s, "known stale", "put 0 0", "kept", "look 2", "again", "kept", "look 2")
        self.assertEqual(told, ["slip 2", "version 2", "0? 0?", "1", "error BadBook", "1 1", "1"])
        told = self.said(s, "known rework", "again", "kept", "look 2", "put 0 1", "kept")
        self.assertEqual(told, ["safe", "room", "- -", "1", "version 1", "1! 1!"])

    def test_again(self):
        s = Shell()
        told = self.said(s, SHEET, "put 0 1", "change 1 c0(2, 3)", "look 2", "again", "row", "show", "worked", "kept",
                         "log", "undo", "look 1", "look 2")
        self.assertEqual(told, [
            "room", "version 1", "version 2", "1", "room", "1", "inputs 1\nc1 = c0(2, 3)\nc2 = c1(0, 1)", "0 0", "- -",
            "", "error NothingToUndo", "3", "1"])

    def test_edits(self):
        s = Shell()
        told = self.said(s, "sheet " + sheet_text(COPIES), "put 0 3", "put 0 3", "change 3 2", "change 1 c0(1, 2)",
                         "log", "undo", "undo", "log", "row", "show", "undo", "undo", "row", "undo")
        self.assertEqual(told, [
            "room", "version 1", "version 2", "version 3", "version 4",
            "put 0 3\nput 0 3\nchange 3 2\nchange 1 c0(1, 2)\n", "version 3", "version 2", "put 0 3\nput 0 3\n", "3",
            sheet_text(COPIES), "version 1", "version 0", "0", "error NothingToUndo"])

    def test_texts_that_are_no_edits(self):
        for s in self.shells()[1:]:
            before = self.state(s)
            for line in ("put ", "put 0", "put 0 4", "put 3 0", "put 0 1\n", "put 0 1 ", "put  0 1", "put 0  1",
                         "put 00 1", "put 0 01", "put 0 1\nput 0 2", "put x y", "put 0 " + "1" * 5000, "change ",
                         "change 1", "change 1 ", "change 1 4", "change 11 0", "change 1 0\n", "change 1 0 ",
                         "change 01 0", "change 1 c0(0,1)", "change 1 c1(0)", "change 2 c2(0)",
                         "change 1 c0(0, 1)\nput 0 1", "change 1 " + "0" * 5000, "put \n", "change \n",
                         "put change 1 0"):
                self.assertEqual(s.say(line), "error BadText", line[:40])
                self.assertEqual(self.state(s), before)

    def test_edits_that_do_not_fit_the_room(self):
        for s in self.shells()[1:]:
            before = self.state(s)
            for line in ("put 1 0", "put 2 3", "change 0 1", "change 3 0", "change 3 c2(0)", "change 10 c9(1)"):
                self.assertEqual(s.say(line), "error Unfit")
                self.assertEqual(self.state(s), before)

    def test_many_edits(self):
        s = Shell()
        s.say(SHEET)
        for number in range(200):
            self.assertEqual(s.say(f"put 0 {number % 4}"), f"version {number + 1}")
        before = self.state(s)
        for line, told in (("put 0 1", "error TooManyEdits"), ("change 1 0", "error TooManyEdits"),
                           ("put 1 0", "error Unfit"), ("put 0 4", "error BadText")):
            self.assertEqual(s.say(line), told)
            self.assertEqual(self.state(s), before)
        self.assertEqual(self.said(s, "undo", "change 1 0", "again", "put 0 1"), [
            "version 199", "version 200", "room", "version 1"])

    def test_looks(self):
        s = Shell()
        s.say("sheet inputs 2\nc2 = c1(1, 2)\nc3 = c2(0, c0(1, 3), 2)")
        told = self.said(s, "put 0 1", "look 0", "look 1", "look 2", "look 3")
        self.assertEqual(told, ["version 1", "1", "0", "1", "3"])
        for number in (4, 5, 9, 10, 11, 99, 1000, 99999):
            self.assertEqual(s.say(f"look {number}"), "error Unfit")
        for number in ("100000", "1" * 6, "04", "00", "-1"):
            self.assertEqual(s.say("look " + number), "what")

    def test_what_is_kept(self):
        s = Shell()
        told = self.said(s, "known signals", "sheet " + sheet_text(COPIES), "kept", "look 2", "kept", "put 0 3", "kept",
                         "look 1", "kept", "look 3", "kept", "worked")
        # The cell 2 makes the cell 3 sure, as it changes while this one is worked out for the first time.
        self.assertEqual(told, ["safe", "room", "- - -", "0", "0 0 -", "version 1", "0! 0? -", "3", "3 0! -", "3",
                                "3 3 3!", "2 2 1"])
        told = self.said(s, "change 2 c1(3, 2, 1, 0)", "kept", "put 0 2", "kept", "look 3", "row")
        self.assertEqual(told, ["version 2", "3 - 3!", "version 3", "3! - 3!", "1", "2"])

    def test_rows(self):
        s = Shell()
        for text, told in (("inputs 0\nc0 = 1", "none"), ("inputs 1\nc1 = 1", "0"), ("inputs 3\nc3 = 1", "0 0 0")):
            self.assertEqual(self.said(s, "sheet " + text, "row", "worked"), ["room", told, "0"])
        self.assertEqual(self.said(s, "put 1 3", "put 2 1", "row"), ["version 1", "version 2", "0 3 1"])

    def test_no_room_ahead_of_all_else(self):
        for line in ROOM_LINES:
            s = Shell()
            self.assertEqual(s.say(line), "no room", line)
            s.say("known stale")
            self.assertEqual(self.said(s, line, SHEET, line), ["no room", "error BadBook", "no room"])
            s.say("known values")
            s.say(SHEET)
            self.assertNotIn(s.say(line), ("no room", "what"))

    def test_undo_without_edits_and_without_a_room(self):
        s = Shell()
        self.assertEqual(self.said(s, "undo", SHEET, "undo"), ["no room", "room", "error NothingToUndo"])


class What(Lines):
    def test_lines_that_are_none(self):
        for s in self.shells():
            before = self.state(s)
            for line in NO_LINES:
                self.assertEqual(s.say(line), "what", line[:40])
            self.assertEqual(self.state(s), before)

    def test_letters_and_figures_of_other_scripts(self):
        for s in self.shells():
            before = self.state(s)
            for line in ("known v\u00e4lues", "known \u00e9", "number \u0663", "number \u00b2", "look \u0661",
                         "look \uff11", "entry h\u00e4nds any", "judg\u00e9"):
                self.assertEqual(s.say(line), "what")
            self.assertEqual(self.state(s), before)

    def test_what_is_no_string(self):
        for s in self.shells():
            before = self.state(s)
            for value in (*ODD_VALUES, 5, 0, ("judge",), ["judge"], {"judge": 1}, VALUES, PAIR, b"judge", s):
                if type(value) is not str or value in ("", " ", "\n", "x"):
                    self.assertEqual(s.say(value), "what")
            self.assertEqual(self.state(s), before)

    def test_blanks_signs_and_capitals(self):
        lines = ("judge", "entries", "hasty", "known late", "number 5", "entry hands any", "book " + " ".join(SIGNALS),
                 "again", "undo", "look 2", "row", "worked", "kept", "show", "log")
        for s in self.shells():
            before = self.state(s)
            for line in lines:
                for odd in (line + " ", " " + line, line + "\n", "\n" + line, line.upper(), line.title(), line + " x",
                            line.replace(" ", "  "), line.replace(" ", "\n"), line.replace(" ", ""), line[:-1],
                            line * 2, line + "0x", line + "."):
                    if odd not in lines and odd not in ("look ", "log", "number ") and odd != line:
                        told = s.say(odd)
                        self.assertIn(told, ("what", "error Unfit", "error BadBook"), odd)
                        if told != "what":
                            self.assertRegex(odd, r"\A(known|entry|book)( [a-z]+)+\Z")
            self.assertEqual(self.state(s), before)


class WhatHolds(Lines):
    def test_beside_a_slow_shell(self):
        answers = {}
        for number in range(400):
            dice = random.Random(number)
            s, slow = Shell(), SlowShell()
            for _ in range(50):
                line = drawn_line(dice, slow)
                told = s.say(line)
                self.assertEqual(told, slow.say(line), line)
                self.assertIs(type(told), str)
                kind = " ".join(told.split(" ")[:2]) if told.startswith(("error", "no")) else told.split(" ")[0]
                answers[kind] = answers.get(kind, 0) + 1
        for kind in ("what", "no room", "room", "version", "safe", "alone", "slip", "none", "error Unfit",
                     "error BadText", "error BadBook", "error NothingToUndo"):
            self.assertGreater(answers.get(kind, 0), 20, kind)

    def test_what_look_tells(self):
        for number in range(200):
            dice = random.Random(5000 + number)
            s, slow = Shell(), SlowShell()
            for _ in range(30):
                line = drawn_line(dice, slow)
                s.say(line)
                slow.say(line)
                if slow.room is not None:
                    sheet = read_sheet(s.say("show"))
                    row = tuple(int(value) for value in s.say("row").split(" ")) if sheet[0] else ()
                    cell = dice.randrange(sheet[0] + len(sheet[1]))
                    self.assertEqual(s.say(f"look {cell}"), str(true_value(sheet, row, cell)))
                    slow.say(f"look {cell}")

    def test_again_changes_no_answer(self):
        for number in range(150):
            dice = random.Random(6000 + number)
            s, slow = Shell(), SlowShell()
            for line in ("known " + dice.choice(("values", "rework", "signals", "remark")),
                         "sheet " + sheet_text(made_lively_sheet(dice, 4))):
                self.assertEqual(s.say(line), slow.say(line))
            for _ in range(15):
                line = line_of_act(*drawn_act(dice, slow.room))
                self.assertEqual(s.say(line), slow.say(line))
            s.say("known " + dice.choice(("values", "rework", "signals")))
            looks = [f"look {cell}" for cell in range(slow.room.sheet[0] + len(slow.room.sheet[1]))]
            before = self.said(s, "row", "show", *looks)
            self.assertEqual(s.say("again"), "room")
            self.assertEqual(self.said(s, "row", "show", *looks), before)
            self.assertEqual(s.say("log"), "")

    def test_a_log_told_anew_to_a_new_shell(self):
        for number in range(150):
            dice = random.Random(7000 + number)
            s, slow = Shell(), SlowShell()
            book = dice.choice(books_of_tests())
            sheet = made_lively_sheet(dice, 4)
            for one in (s, slow):
                self.assertEqual(self.said(one, "book " + " ".join(book), "sheet " + sheet_text(sheet))[1], "room")
            first = s.say("entries"), s.say("show")
            for _ in range(dice.randrange(30)):
                line = line_of_act(*drawn_act(dice, slow.room))
                self.assertEqual(s.say(line), slow.say(line))
            s.say("known values")
            fresh = Shell()
            lines = s.say("log").split("\n")[:-1]
            self.said(fresh, "book " + first[0], "sheet " + first[1])
            for version, line in enumerate(lines, 1):
                self.assertEqual(fresh.say(line), f"version {version}")
            for line in ["show", "row", "log"] + [f"look {cell}" for cell in range(sheet[0] + len(sheet[1]))]:
                self.assertEqual(fresh.say(line), s.say(line))

    def test_two_shells_by_turns(self):
        for number in range(80):
            dice = random.Random(8000 + number)
            shells, slow = (Shell(), Shell()), (SlowShell(), SlowShell())
            for _ in range(60):
                one = dice.randrange(2)
                line = drawn_line(dice, slow[one])
                self.assertEqual(shells[one].say(line), slow[one].say(line))

    def test_what_is_answered_by_an_error_changes_nothing(self):
        for number in range(150):
            dice = random.Random(9000 + number)
            s, slow = Shell(), SlowShell()
            for _ in range(40):
                line = drawn_line(dice, slow)
                before = self.state(s)
                told = s.say(line)
                slow.say(line)
                if told in ("what", "no room") or told.startswith("error "):
                    self.assertEqual(self.state(s), before, line)


class Calls(Lines):
    def test_by_place_and_by_name(self):
        for value in (*ODD_VALUES, *ROOM_LINES, *NO_LINES[:30], "judge", "entries", "hasty", "known late", SHEET,
                      "number 1", "entry hands any", "book " + " ".join(SIGNALS), "sheet x"):
            check_calls(self, lambda line: Shell().say(line), line=value)
            for place in range(3):
                one, other = self.shells()[place], self.shells()[place]
                self.assertEqual(one.say(value), other.say(line=value))
                self.assertEqual(self.state(one), self.state(other))

    def test_a_shell_takes_nothing(self):
        with self.assertRaises(TypeError):
            Shell(VALUES)
