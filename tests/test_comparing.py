"""I1 to I4: quiet books, where they are hasty, and which of two never works more."""

import functools
import itertools
import random
import unittest

from keptmarks.comparing import hasty, is_quiet, more_error, more_run, never_more
from keptmarks.errors import TooMany, Unfit
from keptmarks.onehand import safe_alone
from keptmarks.sheets import sheet_error
from keptmarks.standings import has_ended, start
from keptmarks.steps import step
from keptmarks.vain import no_vain
from keptmarks.working import least_works, works
from tests.samples import (
    COPY, EIGHT, ENTRY_NAMES, ENTRY_WORDS, NEVER, ODD_VALUES, PAIR, REWORK, SIGNALS, VALUES, book_with, check_calls,
    formula_of_deep, made_deeds, made_lively_deeds, made_lively_sheet, made_row, made_small_sheet, some_books,
    with_item,
)
from tests.test_aloneruns import step_by_step
from tests.test_onehand import slow_slip
from tests.test_working import counted_by_step, slow_works

SLOW = book_with(SIGNALS, strike="behind")
MIXED = book_with(VALUES, readers="sure")
TURNED = book_with(MIXED, perhaps="work", sure="check")
TWICE = (("look", 1), ("set", 0, 1), ("set", 0, 0), ("look", 1))
BACK = ((1, ((0, (0, 1)), (1, (0, 1)))), (0,), (("look", 2), ("set", 0, 1), ("look", 1), ("set", 0, 0), ("look", 2)), 2)
RUN = (COPY, (0,), TWICE, 1)

SITUATIONS = ("written", "further", "both", "changed", "every")
# The ten tuples of I4, told by the first letters.
TEN = ("", "wfbce", "w", "f", "fc", "ce", "wbe", "wfb", "wbce", "fbce")

# Of each situation a run in which its cell comes to it once; what is done in between is told in the table.
SITUATION_RUNS = {
    "written": (COPY, (2,), (("look", 1), ("set", 0, 1), ("set", 0, 2), ("look", 1)), 1),
    "further": ((1, ((0, (3, 3)), (1, (0, 1)))), (0,), (("look", 2), ("set", 0, 3), ("look", 2)), 2),
    "both": (
        (1, ((0, (2, 2)), (1, ((0, (0, 1)),)))), (0,),
        (("look", 2), ("set", 0, 1), ("look", 1), ("set", 0, 0), ("look", 2)), 2),
    "changed": BACK,
    "every": (
        (1, ((0, (0, 1)), (0, ((1, (0, 1)), (1, (0, 2)))))), (0,),
        (("look", 2), ("set", 0, 1), ("look", 1), ("set", 0, 0), ("look", 2)), 2),
}


def letters(situations):
    return "".join(name[0] for name in situations)


def slow_hasty(book):
    """The situations by the table of I1, row by row."""
    says = dict(zip(ENTRY_NAMES, book))
    gives = {
        "written": ["readers"], "further": ["further"], "both": ["readers", "further"],
        "changed": ["further", "change"], "every": ["readers", "further", "change"],
    }
    found = []
    for name in SITUATIONS:
        words = [says[entry] for entry in gives[name]]
        mark = "sure" if "sure" in words else "perhaps"
        if says[mark] == "work" or (mark, says[mark], says["check"]) == ("sure", "check", "mark"):
            found.append(name)
    return tuple(found)


def slow_quiet(book):
    says = dict(zip(ENTRY_NAMES, book))
    return slow_slip(book) is None and says["old"] == "struck" and (says["change"], says["strike"]) not in (
        ("sure", "ahead"), ("sure", "unless"))


@functools.cache
def all_quiet_books():
    return tuple(book for book in some_books(1)[:-1] if slow_quiet(book))


def quiet_books():
    """The list of all quiet books."""
    return list(all_quiet_books())


def one_of_each():
    """For each of the ten tuples a quiet book that is hasty in just these, and as many different words as may be."""
    found = {}
    for book in quiet_books()[::-1]:
        found.setdefault(letters(slow_hasty(book)), book)
    return found


class Examples(unittest.TestCase):
    def test_is_quiet(self):
        books = (VALUES, REWORK, SIGNALS, SLOW, MIXED, book_with(MIXED, old="kept"), book_with(VALUES, readers="none"))
        self.assertEqual([is_quiet(book) for book in books], [True, True, False, True, True, False, False])

    def test_hasty(self):
        self.assertEqual([hasty(VALUES), hasty(MIXED), hasty(SLOW)], [
            (), ("written", "both", "every"), ("written", "both", "changed", "every")])
        self.assertEqual([hasty(REWORK), hasty(TURNED)], [SITUATIONS, ("further", "changed")])
        with self.assertRaises(Unfit):
            hasty(SIGNALS)

    def test_never_more(self):
        pairs = ((VALUES, MIXED), (MIXED, VALUES), (MIXED, SLOW), (SLOW, MIXED), (SLOW, REWORK), (MIXED, MIXED))
        self.assertEqual([never_more(*pair) for pair in pairs], [True, False, True, False, True, True])

    def test_more(self):
        self.assertIsNone(more_run(VALUES, MIXED))
        self.assertIsNone(more_error(MIXED, VALUES, more_run(MIXED, VALUES)))
        self.assertIsNone(more_error(SLOW, MIXED, more_run(SLOW, MIXED)))
        told = [more_error(one, other, RUN) for one, other in ((MIXED, VALUES), (VALUES, MIXED), (SLOW, MIXED))]
        self.assertEqual(told, [None, "work", "work"])
        told = [more_error(MIXED, VALUES, value) for value in (
            RUN[:3], ((1, ()),) + RUN[1:], (COPY, (4,), TWICE, 1), (COPY, (0,), (("look", 2),), 1),
            (COPY, (0,), TWICE, 0))]
        self.assertEqual(told, ["form", "sheet", "row", "deeds", "cell"])
        told = [more_error(one, other, BACK) for one, other in ((SLOW, MIXED), (MIXED, SLOW), (REWORK, VALUES))]
        self.assertEqual(told, [None, "work", None])


class IsQuiet(unittest.TestCase):
    def test_all_books(self):
        many = 0
        for book in some_books(1)[:-1]:
            expected = slow_quiet(book)
            self.assertIs(is_quiet(book), expected, book)
            many += expected
            if expected:
                self.assertTrue(safe_alone(book))
        self.assertEqual(many, 4536)

    def test_each_part_of_its_words(self):
        self.assertIs(is_quiet(VALUES), True)
        for words in ({"readers": "none"}, {"further": "none"}, {"perhaps": "answer"}, {"check": "mark"},
                      {"old": "kept"}, {"change": "sure"}, {"change": "sure", "strike": "unless", "stop": "never"}):
            self.assertIs(is_quiet(book_with(VALUES, **words)), False, words)
        for words in ({"strike": "behind"}, {"strike": "unless"}, {"change": "sure", "strike": "behind"},
                      {"write": "last"}, {"enter": "behind"}, {"hands": "any"}, {"sure": "answer"}, {"stop": "never"}):
            self.assertIs(is_quiet(book_with(VALUES, **words)), True, words)

    def test_unfit_where_a_book_is_not(self):
        for book in (SIGNALS, NEVER, book_with(VALUES, old="kept"), book_with(VALUES, perhaps="answer")):
            with self.assertRaises(Unfit):
                hasty(book)
            for one, other in ((book, VALUES), (VALUES, book), (book, book), (REWORK, book), (book, REWORK)):
                for function in (never_more, more_run):
                    with self.assertRaises(Unfit):
                        function(one, other)
                for value in (RUN, None, [], (None,) * 4):
                    with self.assertRaises(Unfit):
                        more_error(one, other, value)


class Hasty(unittest.TestCase):
    def test_all_quiet_books(self):
        found = set()
        for book in quiet_books():
            told = hasty(book)
            self.assertIs(type(told), tuple)
            self.assertEqual(told, slow_hasty(book), book)
            found.add(letters(told))
        self.assertEqual(found, set(TEN))
        self.assertEqual(len(found), 10)

    def test_all_other_books(self):
        for book in some_books(7):
            if not slow_quiet(book):
                with self.assertRaises(Unfit):
                    hasty(book)

    def test_each_row_of_the_table_and_each_way(self):
        told = {
            # Which words of readers, further and change; at which mark it works.
            ("perhaps", "perhaps", "none", "work", "check"): "wfbce",
            ("perhaps", "perhaps", "none", "check", "work"): "",
            ("perhaps", "sure", "none", "work", "check"): "w",
            ("perhaps", "sure", "none", "check", "work"): "fbce",
            ("sure", "perhaps", "none", "work", "check"): "fc",
            ("sure", "perhaps", "none", "check", "work"): "wbe",
            ("perhaps", "perhaps", "sure", "work", "check"): "wfb",
            ("perhaps", "perhaps", "sure", "check", "work"): "ce",
            ("sure", "perhaps", "sure", "work", "check"): "f",
            ("sure", "perhaps", "sure", "check", "work"): "wbce",
            ("sure", "sure", "none", "check", "work"): "wfbce",
            ("sure", "sure", "none", "work", "check"): "",
        }
        for (readers, further, change, perhaps, sure), expected in told.items():
            book = book_with(
                VALUES, readers=readers, further=further, change=change, perhaps=perhaps, sure=sure, strike="behind")
            self.assertEqual(letters(hasty(book)), expected, book)

    def test_a_check_by_marks(self):
        # A check of the sure mark by marks always finds it, one of perhaps does not.
        book = book_with(VALUES, strike="behind", check="mark", change="sure", readers="sure", sure="check")
        self.assertEqual(letters(hasty(book)), "wbce")
        self.assertEqual(letters(hasty(book_with(book, check="values"))), "")
        self.assertEqual(letters(hasty(book_with(book, sure="work"))), "wbce")
        self.assertEqual(letters(hasty(book_with(book, further="sure", change="none"))), "wfbce")

    def test_entries_that_play_no_part(self):
        for book in quiet_books()[::5]:
            told = hasty(book)
            marks = {"perhaps": "perhaps" in book[:2], "sure": "sure" in (book[0], book[1], book[6])}
            free = ["stop", "write", "strike", "enter", "hands"] + [mark for mark in marks if not marks[mark]]
            if not any(marks[mark] and book[place] == "check" for place, mark in ((3, "perhaps"), (4, "sure"))):
                free.append("check")
            for name in free:
                for word in ENTRY_WORDS[ENTRY_NAMES.index(name)]:
                    other = book_with(book, **{name: word})
                    if slow_quiet(other):
                        self.assertEqual(hasty(other), told)
                        self.assertTrue(never_more(book, other) and never_more(other, book))

    def test_what_it_tells_by_runs(self):
        # In each situation's run the cell is worked out once more than need be, if the book is hasty there.
        for book in quiet_books():
            told = hasty(book)
            for name, (sheet, row, deeds, cell) in SITUATION_RUNS.items():
                spot = cell - sheet[0]
                least = least_works(sheet, row, deeds)[spot]
                self.assertEqual(works(book, sheet, row, deeds)[spot], least + (name in told), (book, name))


class NeverMore(unittest.TestCase):
    def test_each_pair_of_the_ten(self):
        books = one_of_each()
        self.assertEqual(len(books), 10)
        for one, other in itertools.product(books, repeat=2):
            told = never_more(books[one], books[other])
            self.assertIs(told, set(one) <= set(other), (one, other))

    def test_drawn_pairs(self):
        dice = random.Random(1)
        books = quiet_books()
        for _ in range(4000):
            one, other = dice.choice(books), dice.choice(books)
            self.assertIs(never_more(one, other), set(slow_hasty(one)) <= set(slow_hasty(other)))

    def test_along_rows_of_books(self):
        dice = random.Random(2)
        books = quiet_books()
        for _ in range(1500):
            one, two, three = dice.choice(books), dice.choice(books), dice.choice(books)
            self.assertTrue(never_more(one, one))
            if never_more(one, two) and never_more(two, three):
                self.assertTrue(never_more(one, three))
            if never_more(one, two) and never_more(two, one):
                self.assertEqual(hasty(one), hasty(two))


class MoreRun(unittest.TestCase):
    def check_pair(self, one, other):
        run = more_run(one, other)
        if never_more(one, other):
            self.assertIsNone(run)
            return
        self.assertIs(type(run), tuple)
        sheet, row, deeds, cell = run
        self.assertIsNone(sheet_error(sheet))
        self.assertLessEqual(len(sheet[1]), 2)
        self.assertEqual((sheet[0], len(row)), (1, 1))
        self.assertLessEqual(len(deeds), 5)
        self.assertIn(cell, range(sheet[0], sheet[0] + len(sheet[1])))
        spot = cell - sheet[0]
        self.assertGreater(works(one, sheet, row, deeds)[spot], works(other, sheet, row, deeds)[spot], (one, other))
        self.assertIsNone(more_error(one, other, run))
        return run

    def test_each_pair_of_the_ten(self):
        books = one_of_each()
        for one, other in itertools.product(books.values(), repeat=2):
            run = self.check_pair(one, other)
            if run is not None:
                sheet, row, deeds, cell = run
                spot = cell - sheet[0]
                counts = [slow_works(book, sheet, row, deeds)[spot] for book in (one, other)]
                self.assertGreater(counts[0], counts[1])
                counts = [counted_by_step(book, sheet, row, deeds)[spot] for book in (one, other)]
                self.assertEqual(counts[0], counts[1] + 1)

    def test_drawn_pairs(self):
        dice = random.Random(3)
        books = quiet_books()
        kinds = {}
        for book in books:
            kinds.setdefault(letters(slow_hasty(book)), []).append(book)
        for one, other in itertools.product(kinds, repeat=2):
            for _ in range(25):
                self.check_pair(dice.choice(kinds[one]), dice.choice(kinds[other]))


class MoreError(unittest.TestCase):
    def told(self, error, value, one=MIXED, other=VALUES):
        self.assertEqual(more_error(one, other, value), error, repr(value)[:200])

    def test_form(self):
        for value in (*ODD_VALUES, list(RUN), RUN + (0,), RUN[:3], RUN[1:], (RUN,), {0: RUN}, "abcd", [1, 2, 3, 4]):
            if type(value) is not tuple or len(value) != 4:
                self.told("form", value)
        self.told("sheet", ((),) * 4)

    def test_sheet(self):
        for sheet in (*ODD_VALUES, (1, ()), (4, (0,)), (1, (0,) * 9), [1, (0,)], (1, ((1, (0,)),)), (True, (0,)),
                      (1, (formula_of_deep(0, 9),)), COPY + (0,), [*COPY]):
            self.assertIsNotNone(sheet_error(sheet))
            for rest in (RUN[1:], (None, None, None), ((), [], 0), ((0,), (("look", 9),), True)):
                self.told("sheet", (sheet,) + rest)

    def test_row(self):
        for row in (*[value for value in ODD_VALUES if value != (1,)], (0, 0), (4,), (-1,), (True,), (False,), [0],
                    ("0",), ((0,),), (10 ** 300,), 0, "0", {0: 0}):
            for rest in (RUN[2:], (None, None), ([], 0), ((("look", 9),), True)):
                self.told("row", (COPY, row) + rest)
        for row in ((), (0,), (0, 0, 0), (0, 4), (True, 0), (0, None), [0, 0]):
            self.told("row", ((2, (0,)), row, (), 2))
        self.told("row", ((0, (1,)), (0,), (), 0))

    def test_deeds(self):
        look = ("look", 1)
        for deed in (*ODD_VALUES, ("look",), ("look", 2), ("look", -1), ("look", True), ("look", None), ["look", 1],
                     ("Look", 1), ("look", 1, 0), ("set", 0), ("set", 1, 0), ("set", 0, 4), ("set", 0, True),
                     ("set", False, 0), ("set", 0, -1), ("put", 0, 0), (look,)):
            for cell in (1, 0, None, True):
                self.told("deeds", (COPY, (0,), (look, deed), cell))
        for deeds in ([look], [*TWICE], None, 0, "look", {}, True, {look: True}, [], (look,) * 201):
            for cell in (1, 0, None, True):
                self.told("deeds", (COPY, (0,), deeds, cell))
        self.told("work", (COPY, (0,), (look,) * 200, 1))
        self.told("work", (COPY, (0,), (), 1))

    def test_cell(self):
        for cell in (*ODD_VALUES, 0, -1, 2, 3, (1,), [1], "1", 10 ** 300):
            self.told("cell", (COPY, (0,), TWICE, cell))
        three = (3, (0, 1))
        for cell in (0, 1, 2, 5, 6, True, False, None):
            self.told("cell", (three, (0, 0, 0), (), cell))
        for cell in (3, 4):
            self.told("work", (three, (0, 0, 0), (), cell))
        # Ahead of steps and of work.
        self.told("cell", (EIGHT, (0,), self.long_deeds(200), 0))
        self.told("cell", (COPY, (0,), TWICE, True))

    def long_deeds(self, many):
        """So many deeds on the sheet eight, most of which take many steps."""
        return ((("set", 0, 1), ("look", 8), ("set", 0, 0), ("look", 8)) * 50)[:many]

    def steps_behind(self, book, deeds):
        """How many steps are done on the sheet eight behind each of the deeds."""
        standing, steps, told = start(EIGHT, (0,), (deeds,)), 0, []
        while not has_ended(standing):
            standing, steps = step(book, EIGHT, standing, 0), steps + 1
            if standing[3][0][1] == ():
                told.append(steps)
        return told

    def test_steps(self):
        # By this book writes mark twice, so it needs more steps for sets than the others.
        slower = book_with(MIXED, write="between")
        many = [sum(steps <= 4000 for steps in self.steps_behind(book, self.long_deeds(200))) + 1
                for book in (MIXED, slower)]
        self.assertLess(many[1], many[0])
        between = self.long_deeds(many[1])
        for one, other in ((MIXED, slower), (slower, MIXED), (slower, slower)):
            self.told("steps", (EIGHT, (0,), between, 8), one, other)
            self.told("steps", (EIGHT, (0,), self.long_deeds(200), 8), one, other)
            self.told("work", (EIGHT, (0,), between[:-1], 8), one, other)
        self.told("work", (EIGHT, (0,), between, 8), MIXED, MIXED)
        # Who works more often plays no part then.
        self.told("steps", (EIGHT, (0,), TWICE * 20 + between, 1), REWORK, VALUES)
        self.told("steps", (EIGHT, (0,), TWICE * 20 + between, 1), VALUES, REWORK)

    def test_just_4000_steps_and_one_more(self):
        steps = self.steps_behind(MIXED, self.long_deeds(200))
        many = sum(some <= 4000 for some in steps)
        deeds, left = self.long_deeds(many), 4000 - steps[many - 1]
        value = (("set", 0, [deed for deed in deeds if deed[0] == "set"][-1][2]),)
        self.assertLess(many + left, 200)
        self.assertEqual(step_by_step(MIXED, EIGHT, (0,), deeds + value * left)[1], 4000)
        self.told("work", (EIGHT, (0,), deeds + value * left, 1), MIXED, MIXED)
        self.told("steps", (EIGHT, (0,), deeds + value * (left + 1), 1), MIXED, MIXED)

    def test_work(self):
        self.told(None, RUN)
        self.told("work", RUN, VALUES, MIXED)
        self.told("work", RUN, MIXED, MIXED)
        self.told("work", RUN, REWORK, MIXED)
        self.told(None, RUN, REWORK, VALUES)
        # One cell is worked out more often, the other one is not.
        sheet = (1, ((0, (0, 1)), (1, (0, 1))))
        deeds = (("look", 2), ("set", 0, 1), ("set", 0, 0), ("look", 2))
        self.assertEqual([works(book, sheet, (0,), deeds) for book in (MIXED, VALUES)], [(2, 1), (1, 1)])
        self.told(None, (sheet, (0,), deeds, 1))
        self.told("work", (sheet, (0,), deeds, 2))

    def test_larger_runs(self):
        deeds = (("look", 8),) + (("set", 0, 1), ("set", 0, 0), ("look", 8)) * 20
        self.told(None, (EIGHT, (0,), deeds, 8), REWORK, VALUES)
        self.told(None, (EIGHT, (0,), deeds, 1), REWORK, VALUES)

    def test_beside_works(self):
        books = list(one_of_each().values())
        found = {None: 0, "work": 0}
        for number in range(3000):
            dice = random.Random(number)
            sheet = made_lively_sheet(dice, 4)
            row, deeds = made_row(dice, sheet), made_deeds(dice, sheet, dice.randrange(2, 16))
            one, other = dice.sample(books, 2)
            counts = [slow_works(book, sheet, row, deeds) for book in (one, other)]
            for spot in range(len(sheet[1])):
                expected = None if counts[0][spot] > counts[1][spot] else "work"
                self.told(expected, (sheet, row, deeds, sheet[0] + spot), one, other)
                found[expected] += 1
        self.assertGreater(min(found.values()), 100)

    def test_one_item_changed_of_runs_that_are_told(self):
        run = more_run(REWORK, VALUES)
        for place, word in enumerate(("sheet", "row", "deeds", "cell")):
            for value in (None, True, 10 ** 399, "x", [0], {}, ((),) * 4000):
                self.told(word, with_item(run, place, value), REWORK, VALUES)
        self.told("form", list(run), REWORK, VALUES)
        self.told("row", with_item(run, 1, (False,)), REWORK, VALUES)

    def test_two_at_once(self):
        wrong = ("sheet", [COPY]), ("row", [0]), ("deeds", [*TWICE]), ("cell", True)
        for places in itertools.product((False, True), repeat=4):
            value = tuple(odd if place else right for place, (_, odd), right in zip(places, wrong, RUN))
            expected = next((word for place, (word, _) in zip(places, wrong) if place), None)
            self.told(expected, value)
            self.told("form", value + (0,))
            self.told("form", list(value))


class WhatHolds(unittest.TestCase):
    def counted(self, number, books, many=6):
        """How often cells are worked out on a drawn sheet by each of some drawn books; None where that takes long."""
        dice = random.Random(900000 + number)
        if number % 3:
            sheet = made_lively_sheet(dice, dice.choice((2, 3, 5)))
            row, deeds = made_row(dice, sheet), made_lively_deeds(dice, sheet, dice.randrange(3, 25))
        else:
            sheet = made_small_sheet(dice, dice.choice((3, 6)))
            row, deeds = made_row(dice, sheet), made_deeds(dice, sheet, dice.randrange(3, 25))
        drawn = dice.sample(books, many)
        try:
            return [(book, works(book, sheet, row, deeds)) for book in drawn], least_works(sheet, row, deeds)
        except TooMany:
            return [], ()

    def test_never_more_in_drawn_runs(self):
        books = quiet_books()
        for number in range(2500):
            counts, least = self.counted(number, books)
            for (one, some), (other, more) in itertools.permutations(counts, 2):
                if never_more(one, other):
                    self.assertTrue(all(few <= many for few, many in zip(some, more)), (one, other))
                if hasty(one) == hasty(other):
                    self.assertEqual(some, more)

    def test_hasty_in_no_situation_works_least(self):
        calm = [book for book in quiet_books() if hasty(book) == ()]
        for book in calm:
            self.assertTrue(no_vain(book))
        for number in range(2500, 3500):
            counts, least = self.counted(number, calm)
            for _, some in counts:
                self.assertEqual(some, least)

    def test_the_drawing_sees_who_works_more(self):
        books = list(one_of_each().values())
        more = {}
        for number in range(3500, 4700):
            counts, _ = self.counted(number, books, 10)
            for (one, some), (other, many) in itertools.permutations(counts, 2):
                if any(high > low for high, low in zip(some, many)):
                    more[one, other] = True
        for one, other in itertools.permutations(books, 2):
            self.assertEqual((one, other) in more, not never_more(one, other))


class Calls(unittest.TestCase):
    def test_by_place_and_by_name(self):
        for book in some_books(1201) + [VALUES, MIXED, SLOW, SIGNALS]:
            check_calls(self, is_quiet, book=book)
            check_calls(self, hasty, book=book)
            check_calls(self, never_more, one=book, other=MIXED)
            check_calls(self, more_run, one=SLOW, other=book)
            check_calls(self, more_error, one=book, other=VALUES, value=RUN)
        for value in (*ODD_VALUES, RUN, BACK, RUN[:3], [*RUN], with_item(RUN, 3, True)):
            check_calls(self, more_error, one=SLOW, other=MIXED, value=value)
