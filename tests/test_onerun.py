"""D3, D4 and D5: runs in which one hand is told wrongly, found and judged."""

import random
import unittest

from keptmarks.knownbooks import known_book, known_names
from keptmarks.onehand import slip_alone
from keptmarks.onerun import losing_alone, losing_alone_error
from keptmarks.sheets import sheet_error
from tests.samples import (
    COPY, EIGHT, NEVER, ODD_VALUES, PAIR, REWORK, SIGNALS, TRACED, VALUES, book_with, check_calls, formula_of_deep,
    made_book, made_deeds, made_row, made_small_sheet, some_books, with_item,
)
from tests.slowhands import SlowHands
from tests.test_aloneruns import deeds_of_steps, step_by_step
from tests.test_asking import slow_walk

TWICE = (("look", 2), ("set", 0, 1), ("look", 2))
NOTED = book_with(TRACED, sure="check", check="mark")
RUN = (PAIR, (0,), TWICE)


def slow_last_look(book, sheet, row, deeds):
    """What the last deed, a look, is told, and what is true then."""
    slow = SlowHands(book, sheet, row, (deeds,))
    told = None
    while not slow.ended(0):
        told = slow.turn(0)
    return told, slow_walk(sheet, tuple(slow.values), deeds[-1][1])[1]


class Examples(unittest.TestCase):
    def test_losing_alone(self):
        self.assertIsNone(losing_alone(TRACED))
        self.assertIsNone(losing_alone_error(NEVER, losing_alone(NEVER)))
        self.assertIsNone(losing_alone_error(NOTED, losing_alone(NOTED)))

    def test_errors(self):
        self.assertEqual(losing_alone_error(TRACED, RUN), "true")
        told = [losing_alone_error(NEVER, (PAIR, (0,), deeds)) for deeds in (
            TWICE[:2], (), TWICE + (("look", 3),), [("look", 1)], TWICE[:1])]
        self.assertEqual(told, ["last", "last", "deeds", "deeds", "true"])
        told = [losing_alone_error(NEVER, value) for value in (
            None, (PAIR, (0,)), (PAIR, (0, 0), TWICE), ((1, ()), (0,), TWICE), (PAIR, (True,), TWICE))]
        self.assertEqual(told, ["form", "form", "row", ("sheet", "many"), "row"])

    def test_kept_on(self):
        three = (1, ((0, (0, 1, 2)), (1, (0, 1, 1)), (2, (0, 1))))
        deeds = (("look", 3), ("set", 0, 2), ("look", 3), ("set", 0, 0), ("look", 3))
        self.assertIsNone(losing_alone_error(book_with(TRACED, strike="unless"), (three, (1,), deeds)))
        self.assertEqual(losing_alone_error(TRACED, (three, (1,), deeds)), "true")


class LosingRuns(unittest.TestCase):
    def losing(self, book):
        """The run that is told for a book, if it is one of the size that is told."""
        run = losing_alone(book)
        self.assertIs(type(run), tuple)
        sheet, row, deeds = run
        self.assertIsNone(sheet_error(sheet))
        self.assertLessEqual(sheet[0], 2)
        self.assertLessEqual(len(sheet[1]), 3)
        self.assertEqual(len(row), sheet[0])
        self.assertLessEqual(len(deeds), 7)
        self.assertEqual(deeds[-1][0], "look")
        return run

    def test_all_books(self):
        numbers = {}
        for book in some_books(1)[:-1]:
            number = slip_alone(book)
            if number is None:
                self.assertIsNone(losing_alone(book), book)
            else:
                self.assertIsNone(losing_alone_error(book, self.losing(book)), book)
            numbers[number] = numbers.get(number, 0) + 1
        self.assertEqual(numbers[None], 10272)
        self.assertEqual(sum(numbers.values()), 69984)

    def test_beside_a_slow_reckoning(self):
        # Every word of each entry stands in some of these books; those of the rarer numbers are taken more often.
        wanted = {1: 40, 2: 20, 3: 4, 4: 2, 5: 3}
        count = dict.fromkeys(wanted, 0)
        for book in some_books(1)[:-1]:
            number = slip_alone(book)
            if number is None:
                continue
            count[number] += 1
            if count[number] % wanted[number] == 0:
                sheet, row, deeds = self.losing(book)
                told, true = slow_last_look(book, sheet, row, deeds)
                self.assertNotEqual(told, true, book)
        self.assertEqual(sum(count.values()), 69984 - 10272)

    def test_known_books(self):
        for name in known_names():
            book = known_book(name)
            if name in ("direct", "stale", "untold", "blind"):
                told, true = slow_last_look(book, *self.losing(book))
                self.assertNotEqual(told, true, name)
            else:
                self.assertIsNone(losing_alone(book), name)


class Errors(unittest.TestCase):
    def told(self, error, value, book=NEVER):
        self.assertEqual(losing_alone_error(book, value), error, repr(value)[:200])

    def test_form(self):
        for value in (*ODD_VALUES, list(RUN), RUN + (0,), RUN[:2], (RUN,), {0: RUN}, "abc", [1, 2, 3], ("a", "b")):
            if type(value) is not tuple or len(value) != 3:
                self.told("form", value)
        self.told(("sheet", "form"), (None, None, None))

    def test_sheet(self):
        for sheet in (*ODD_VALUES, (1, ()), (4, (0,)), (1, (0,) * 9), [1, (0,)], (1, ((1, (0,)),)),
                      (1, (formula_of_deep(0, 9),)), (1, (0, (0, (0, 9)))), (True, (0,)), PAIR + (0,)):
            self.assertIsNotNone(sheet_error(sheet))
            for row, deeds in (((0,), TWICE), (None, None), ((), ())):
                self.told(("sheet", sheet_error(sheet)), (sheet, row, deeds))

    def test_row(self):
        odd = [value for value in ODD_VALUES if value != (1,)]
        for row in (*odd, (0, 0), (4,), (-1,), (True,), (False,), (None,), ("0",), [0], ((0,),), (10 ** 300,), 0, "0",
                    {0: 0}):
            for deeds in (TWICE, None, ()):
                self.told("row", (PAIR, row, deeds))
        two = (2, (0,))
        for row in ((), (0,), (0, 0, 0), (0, 4), (4, 0), (True, 0), (0, False), (0, None), [0, 0]):
            self.told("row", (two, row, ()))
        for row in ((0,), None, [], "", 0):
            self.told("row", ((0, (1,)), row, ()))
        for row in ((0, 0), (3, 3), (1, 2)):
            self.told("last", (two, row, ()))
        self.told("last", ((0, (1,)), (), ()))

    def test_deeds_that_are_none(self):
        good = ("look", 1)
        for deed in (*ODD_VALUES, ("look",), ("look", 3), ("look", -1), ("look", True), ("look", None), ("look", "1"),
                     ("look", 1, 0), ["look", 1], ("Look", 1), ("", 1), (None, 1), ("look ", 1), (("look",), 1),
                     ("look", 10 ** 399), ("set",), ("set", 0), ("set", 1, 0), ("set", -1, 0), ("set", 0, 4),
                     ("set", 0, -1), ("set", 0, True), ("set", False, 0), ("set", 0, None), ("set", 0, 0, 0),
                     ["set", 0, 0], ("put", 0, 0), ("set", (0,), 0), ("set", 0, [0]), ("set", "0", 0), (good,),
                     "look 1"):
            self.told("deeds", (PAIR, (0,), (good, deed, good)))
            self.told("deeds", (PAIR, (0,), (deed,)))
        self.told("true", (PAIR, (0,), (good, good)))

    def test_deeds_that_are_no_tuple(self):
        for deeds in ([*TWICE], list(ODD_VALUES), None, 0, "look", {"look": 1}, {("look", 1): True}, [], True):
            self.told("deeds", (PAIR, (0,), deeds))

    def test_each_cell_of_the_sheet_may_be_looked_at(self):
        for cell in range(3):
            self.told("true", (PAIR, (0,), (("look", cell),)))
        sheet = (3, (0,))
        for x in range(3):
            for v in range(4):
                self.told("true", (sheet, (0, 0, 0), (("set", x, v), ("look", 3))))
        self.told("deeds", (sheet, (0, 0, 0), (("set", 3, 0), ("look", 3))))
        self.told("deeds", ((0, (1,)), (), (("set", 0, 0), ("look", 0))))

    def test_two_hundred_deeds_and_one_more(self):
        for book, told in ((NEVER, None), (VALUES, "true")):
            self.told(told, (PAIR, (0,), TWICE[:2] + (("look", 2),) * 198), book)
            self.told("deeds", (PAIR, (0,), TWICE[:2] + (("look", 2),) * 199), book)
        self.told("last", (PAIR, (0,), (("set", 0, 1),) * 200))
        self.told("deeds", (PAIR, (0,), (("set", 0, 1),) * 201))

    def test_a_set_in_the_end_and_no_deed(self):
        for deeds in ((), (("set", 0, 1),), (("set", 0, 0),), TWICE + (("set", 0, 0),), TWICE[:2]):
            for book in (NEVER, VALUES):
                self.told("last", (PAIR, (0,), deeds), book)

    def test_steps(self):
        deeds, left = deeds_of_steps(3998)
        value = [deed for deed in deeds if deed[0] == "set"][-1][2]
        last = (("set", 0, value),)
        look = (("look", 0),)
        self.assertEqual(step_by_step(VALUES, EIGHT, (0,), deeds + last * left + look)[1], 4000)
        self.told("true", (EIGHT, (0,), deeds + last * left + look), VALUES)
        self.told("steps", (EIGHT, (0,), deeds + last * (left + 1) + look), VALUES)
        self.told("last", (EIGHT, (0,), deeds + last * (left + 1)), VALUES)
        # A look that is told wrongly counts only if it comes by the 4000th step: by direct the cell 8 keeps 0.
        book = book_with(VALUES, further="none")
        long = (("look", 8),) + (("set", 0, 1), ("set", 0, 2)) * 99
        steps = step_by_step(book, EIGHT, (0,), long)[1]
        self.assertLess(steps, 4000)
        self.told(None, (EIGHT, (0,), long + (("look", 8),)), book)

    def test_a_wrong_look_ahead_of_the_last_one_does_not_count(self):
        deeds = TWICE + (("look", 0),)
        self.told("true", (PAIR, (0,), deeds))
        self.told("true", (PAIR, (0,), TWICE + (("set", 0, 0), ("look", 2))))
        self.told(None, (PAIR, (0,), TWICE + (("set", 0, 2), ("look", 2))))

    def test_larger_runs(self):
        for many in (1, 5, 60):
            self.told(None, (EIGHT, (0,), (("look", 8),) + (("set", 0, 1), ("set", 0, 2)) * many + (("look", 8),)))

    def test_beside_a_slow_reckoning(self):
        found = {}
        for number in range(2500):
            dice = random.Random(number)
            sheet = made_small_sheet(dice, dice.choice((2, 3, 5)))
            book, row, deeds = made_book(dice), made_row(dice, sheet), made_deeds(dice, sheet, dice.randrange(1, 12))
            if number % 2:
                # What loses by one book does by many, and more often than what is drawn.
                sheet, row, deeds = losing_alone(made_book(dice)) or (sheet, row, deeds)
            if deeds[-1][0] == "set":
                expected = "last"
            else:
                told, true = slow_last_look(book, sheet, row, deeds)
                expected = "true" if told == true else None
            found[expected] = found.get(expected, 0) + 1
            self.told(expected, (sheet, row, deeds), book)
        self.assertGreater(min(found.values()), 200)

    def test_of_a_safe_book_something_is_wrong_with_each_run(self):
        for book in (VALUES, SIGNALS, REWORK, TRACED):
            for other in some_books(1013):
                run = losing_alone(other)
                if run is not None:
                    self.told("true", run, book)

    def test_one_item_changed(self):
        run = losing_alone(VALUES[:3] + ("answer",) + VALUES[4:])
        for place, words in ((0, ("sheet", "form")), (1, "row"), (2, "deeds")):
            for value in (None, True, 10 ** 399, "x", [0], {}, ((),) * 4000):
                error = losing_alone_error(NEVER, with_item(run, place, value))
                if place == 0:
                    self.assertEqual(error[0], "sheet")
                else:
                    self.assertEqual(error, words)
        self.told("row", with_item(run, 1, ()))


class Calls(unittest.TestCase):
    def test_by_place_and_by_name(self):
        for book in some_books(2003):
            check_calls(self, losing_alone, book=book)
            check_calls(self, losing_alone_error, book=book, value=RUN)
        for value in (*ODD_VALUES, RUN, (PAIR, (0, 0), TWICE), (PAIR, (0,), TWICE[:2]), (COPY, [0], ()), ({}, [], [])):
            check_calls(self, losing_alone_error, book=NEVER, value=value)
