"""G5, and G6 as far as it speaks of losing_error: losing runs, judged."""

import random
import unittest

from keptmarks.losingjudge import losing_error
from keptmarks.losingruns import losing
from keptmarks.safety import slip
from keptmarks.sheets import sheet_error
from keptmarks.standings import can_step, has_ended, start
from keptmarks.steps import step
from tests.samples import (
    COPIES, COPY, EIGHT, ENTRY_WORDS, NEVER, ODD_VALUES, PAIR, REWORK, SIGNALS, TRACED, VALUES, book_with, check_calls,
    formula_of_deep, made_book, made_lively_deeds, made_lively_sheet, made_row, some_books, with_item,
)
from tests.test_hands import hands_that_can
from tests.test_safety import WRONG, safe_books
from tests.test_weavesearch import drawn_order, looked_wrong, made_programs, slow_wrong

LATE = book_with(VALUES, write="last")
SINGLE = (1, ((0, (1, 2)),))
LOOK, SET, IDLE = (("look", 1),), (("set", 0, 1),), (("set", 0, 0),)
RUN = (SINGLE, (0,), (SET, LOOK), (0,) * 3 + (1,) * 7 + (0,))

# What is no program for SINGLE.
NO_PROGRAMS = (
    None, True, 0, 1, "look", "", [], [("look", 1)], {}, {("look", 1): True}, (1,), ("look",), ("look", 1),
    ("set", 0, 1), (("look",),), (("look", 2),), (("look", -1),), (("look", True),), (("look", None),),
    (("look", "1"),), (["look", 1],), (("Look", 1),), (("look", 1, 0),), (("set", 1, 0),), (("set", 0, 4),),
    (("set", 0, -1),), (("set", 0, True),), (("set", False, 0),), (("set", 0),), (("set", 0, 0, 0),), (("put", 0, 0),),
    ((),), (((),),), (("look", 1), None), (("look", 1), ("look", 2)), (("look", 10 ** 399),), (("set", 0, 1),) * 201,
)

# What is no hand of two.
NO_HANDS = (
    None, True, False, -1, 2, 3, 10 ** 399, -10 ** 399, "", "0", "hand", (), (0,), ((), ()), [], [0], {}, {0: 0})


class Judged(unittest.TestCase):
    def told(self, error, value, book=LATE):
        found = losing_error(book, value)
        self.assertEqual(found, error, repr(value)[:200])
        self.assertIs(type(found), type(error))
        if isinstance(found, tuple) and found[0] in ("program", "order"):
            self.assertIs(type(found[1]), int)


class Examples(Judged):
    def test_run(self):
        self.told(None, RUN)
        self.told("open", RUN, VALUES)
        self.told("open", RUN[:3] + (RUN[3][:10],))
        self.told(("order", 11), RUN[:3] + (RUN[3] + (1,),))

    def test_others(self):
        self.told("right", (SINGLE, (0,), (LOOK,), (0,) * 7), VALUES)
        self.told(("sheet", "form"), (None,) + RUN[1:], VALUES)
        self.told("row", RUN[:1] + ((),) + RUN[2:], VALUES)
        self.told(("program", 0), RUN[:2] + ((), ()), VALUES)


class Form(Judged):
    def test_no_quadruple(self):
        for value in (*ODD_VALUES, list(RUN), RUN + (0,), RUN[:3], RUN[:2], RUN[1:], (RUN,), {0: RUN}, "abcd", (), [],
                      [1, 2, 3, 4], {1: 1, 2: 2, 3: 3, 4: 4}):
            if type(value) is not tuple or len(value) != 4 or type(value[2]) is not tuple:
                self.told("form", value)
        self.told(("sheet", "form"), ((),) * 4)

    def test_third_and_fourth_item(self):
        for odd in (None, True, 0, 1, "", "look", [], list(RUN[2]), list(RUN[3]), {}, {0: 0}):
            # It comes ahead of all else that is wrong.
            for sheet, row in ((SINGLE, (0,)), (None, None), (EIGHT, (0,)), (SINGLE, ())):
                self.told("form", (sheet, row, odd, RUN[3]))
                self.told("form", (sheet, row, RUN[2], odd))
                self.told("form", (sheet, row, odd, odd))
                self.told("form", (sheet, row, (), odd))


class Sheets(Judged):
    def test_no_sheet(self):
        for sheet in (*ODD_VALUES, (1, ()), (4, (0,)), (1, (0,) * 9), [1, (0,)], (1, ((1, (0,)),)),
                      (1, (formula_of_deep(0, 9),)), (1, (0, (0, (0, 9)))), (True, (0,)), SINGLE + (0,),
                      (1, (0, 0, 0, 7))):
            self.assertIsNotNone(sheet_error(sheet))
            for rest in (RUN[1:], (None, (), ()), ((), RUN[2], ()), ((0,), (None,), (None,))):
                self.told(("sheet", sheet_error(sheet)), (sheet,) + rest)

    def test_three_formulas_and_more(self):
        for sheet in (COPIES, EIGHT, (1, (0,) * 3), (0, (1,) * 8), (3, (0, 1, 2))):
            for rest in (RUN[1:], (None, (), ()), ((), (None,), ()), ((0,), (SET,) * 3, (7,))):
                self.told("formulas", (sheet,) + rest)

    def test_one_formula_and_two(self):
        for sheet in (COPY, PAIR, SINGLE):
            for inputs in range(4):
                wide = (inputs, sheet[1]) if inputs == 1 else (inputs, (0,) * len(sheet[1]))
                self.told("right", (wide, (0,) * inputs, ((),), ()))
        self.told("formulas", ((1, (0, 0, 0)), (0,), ((),), ()))


class Rows(Judged):
    def test_no_row(self):
        odd = [value for value in ODD_VALUES if value != (1,)]
        for row in (*odd, (0, 0), (4,), (-1,), (True,), (False,), (None,), ("0",), [0], ((0,),), (10 ** 300,), 0, "0",
                    {0: 0}):
            for rest in (RUN[2:], ((), ()), ((None,), ()), ((SET,) * 3, (9,))):
                self.told("row", (SINGLE, row) + rest)
        two = (2, (0,))
        for row in ((), (0,), (0, 0, 0), (0, 4), (4, 0), (True, 0), (0, False), (0, None), [0, 0]):
            self.told("row", (two, row, (), ()))
        for row in ((0,), None, [], "", 0):
            self.told("row", ((0, (1,)), row, ((),), ()))

    def test_rows(self):
        for row in ((0, 0), (3, 3), (1, 2)):
            self.told("right", ((2, (0,)), row, ((),), ()))
        self.told("right", ((0, (1,)), (), ((),), ()))


class Programs(Judged):
    def test_none_at_all(self):
        for order in ((), RUN[3], (None,), (0,) * 201):
            self.told(("program", 0), (SINGLE, (0,), (), order))

    def test_no_programs(self):
        for odd in (*NO_PROGRAMS, *[value for value in ODD_VALUES if value != ()]):
            for order in ((), RUN[3], (None,)):
                self.told(("program", 0), (SINGLE, (0,), (odd,), order))
                self.told(("program", 0), (SINGLE, (0,), (odd, LOOK), order))
                self.told(("program", 0), (SINGLE, (0,), (odd, odd), order))
                self.told(("program", 1), (SINGLE, (0,), (SET, odd), order))
                self.told(("program", 0), (SINGLE, (0,), (odd, SET, LOOK), order))
                self.told(("program", 1), (SINGLE, (0,), (SET, odd, LOOK), order))
                self.told(("program", 2), (SINGLE, (0,), (SET, LOOK, odd), order))
                self.told(("program", 3), (SINGLE, (0,), (SET, LOOK, (), odd), order))

    def test_three_and_more(self):
        for many in (3, 4, 5, 1000):
            for program in ((), SET, LOOK):
                for order in ((), RUN[3], (None,), (2,)):
                    self.told(("program", 2), (SINGLE, (0,), (program,) * many, order))
        self.told(("program", 999), (SINGLE, (0,), ((),) * 999 + (None,), ()))

    def test_one_and_two(self):
        for programs in (((),), ((), ())):
            self.told("right", (SINGLE, (0,), programs, ()))
        self.told("right", (SINGLE, (0,), (IDLE * 200,), (0,) * 200))
        self.told(("program", 0), (SINGLE, (0,), (IDLE * 201,), (0,) * 200))


class Orders(Judged):
    def test_what_is_no_hand(self):
        for odd in NO_HANDS:
            for spot in range(11):
                self.told(("order", spot), with_item(RUN, 3, with_item(RUN[3], spot, odd)))
                self.told(("order", spot), with_item(RUN, 3, RUN[3][:spot] + (odd,)))
                self.told(("order", spot), with_item(RUN, 3, RUN[3][:spot] + (odd, odd) * 150))
        for odd in (*ODD_VALUES, 1):
            if odd != 0 or odd is False:
                self.told(("order", 0), (SINGLE, (0,), (SET,), (odd, 0, 0, 0)))

    def test_a_hand_that_has_ended(self):
        self.told(("order", 0), (SINGLE, (0,), ((),), (0,)))
        self.told(("order", 1), (SINGLE, (0,), (IDLE,), (0, 0)))
        self.told(("order", 0), (SINGLE, (0,), ((), SET), (0,)))
        self.told(("order", 4), (SINGLE, (0,), (SET, LOOK), (0,) * 4 + (0,)))
        self.told(("order", 11), with_item(RUN, 3, RUN[3] + (0,)))

    def test_a_hand_that_waits(self):
        value = (SINGLE, (0,), (LOOK, LOOK), (0, 0, 1, 1))
        self.told(("order", 3), value)
        self.told("open", value, book_with(LATE, hands="any"))
        self.told(("order", 4), with_item(value, 3, (1, 1, 1, 0, 0)))

    def test_200_steps_and_201(self):
        # The book of which nothing is right: the hand is told wrongly behind its first fourteen steps.
        deeds = LOOK + SET
        order, _ = drawn_order(NEVER, SINGLE, (0,), (deeds,), random.Random(1))
        for many, error in ((200, None), (201, ("order", 200))):
            more = many - len(order)
            self.told(error, (SINGLE, (0,), (deeds + SET * more,), (0,) * many), NEVER)
        for many in (201, 202, 400, 4000):
            self.told(("order", 200), (SINGLE, (0,), (IDLE * 200,), (0,) * many))
        self.told("open", (SINGLE, (0,), (IDLE * 200, IDLE), (0,) * 200))
        self.told("right", (SINGLE, (0,), (IDLE * 199, IDLE), (0,) * 199 + (1,)))
        self.told("open", (SINGLE, (0,), (IDLE * 200, IDLE * 200), (0, 1) * 100))
        self.told(("order", 200), (SINGLE, (0,), (IDLE * 200, IDLE * 200), (0, 1) * 200))
        # What stands behind the 200th place is not asked what it is.
        for odd in NO_HANDS:
            self.told(("order", 200), (SINGLE, (0,), (IDLE * 200, IDLE), (0,) * 200 + (odd,)))
            self.told(("order", 199), (SINGLE, (0,), (IDLE * 200, IDLE), (0,) * 199 + (odd, 0)))
            self.told(("order", 200), (SINGLE, (0,), (IDLE * 200, IDLE * 200), (0, 1) * 150 + (odd,)))

    def test_orders_that_end_too_early(self):
        for many in range(11):
            self.told("open", with_item(RUN, 3, RUN[3][:many]))
        self.told("open", (SINGLE, (0,), (IDLE,), ()))
        self.told("open", (SINGLE, (0,), ((), IDLE), ()))
        self.told("open", (SINGLE, (0,), (IDLE, IDLE), (0,)))
        self.told("open", (SINGLE, (0,), (IDLE, IDLE), (1,)))

    def test_right(self):
        order = (0,) * 4 + (1,) * 7
        self.told("right", with_item(RUN, 3, order))
        self.told("right", with_item(RUN, 3, (1,) * 7 + (0,) * 6), VALUES)
        # What was told amid the run plays no part: here an old value is, and then the set is taken back.
        self.told("right", (SINGLE, (0,), (LOOK + SET + LOOK + IDLE,), (0,) * 17), NEVER)
        self.told(None, (SINGLE, (0,), (LOOK + SET + LOOK,), (0,) * 13), NEVER)

    def test_any_cell_may_be_the_one_that_is_told_wrongly(self):
        sheet = (1, ((0, (0, 1)), (0, (0, 1))))
        for cell in (1, 2):
            self.told(None, (sheet, (0,), ((("look", cell),) + SET,), (0,) * 11), NEVER)

    def test_beside_runs_step_by_step(self):
        found = {}
        for number in range(1200):
            dice = random.Random(number)
            book, sheet = made_book(dice), made_lively_sheet(dice, 2)
            row = made_row(dice, sheet)
            programs = made_programs(dice, sheet, row)
            if number % 3 == 0:
                programs = (made_lively_deeds(dice, sheet, 4),)
            order, last = drawn_order(book, sheet, row, programs, dice)
            expected = None if looked_wrong(book, sheet, last) else "right"
            self.told(expected, (sheet, row, programs, order), book)
            found[expected] = found.get(expected, 0) + 1
            if number % 10 == 0:
                self.assertEqual(slow_wrong(book, sheet, row, programs, order) == (), expected == "right")
            self.one_item_changed(book, (sheet, row, programs, order), dice)
        self.assertGreater(min(found.values()), 150)

    def one_item_changed(self, book, run, dice):
        """Judge a run with another hand at some place of its order, or cut off there."""
        sheet, row, programs, order = run
        spot = dice.randrange(len(order))
        self.told("open", run[:3] + (order[:spot],), book)
        hand = dice.choice((0, 1, 2))
        standing = start(sheet, row, programs)
        for place, one in enumerate(order[:spot] + (hand,) + order[spot + 1:]):
            if one >= len(programs) or not can_step(book, standing, one):
                self.told(("order", place), run[:3] + (with_item(order, spot, hand),), book)
                return
            standing = step(book, sheet, standing, one)
        expected = "open"
        if has_ended(standing):
            expected = None if looked_wrong(book, sheet, standing) else "right"
        self.told(expected, run[:3] + (with_item(order, spot, hand),), book)


class TwoAtOnce(Judged):
    def test_the_first_one_that_applies(self):
        wrong = (
            ("form", lambda value: with_item(value, 3, list(value[3]))),
            (("sheet", "inputs"), lambda value: with_item(value, 0, (7,) + value[0][1:])),
            ("formulas", lambda value: with_item(value, 0, (value[0][0], value[0][1] + (0, 0)))),
            ("row", lambda value: with_item(value, 1, [0])),
            (("program", 1), lambda value: with_item(value, 2, (value[2][0], None))),
            (("order", 2), lambda value: with_item(value, 3, with_item(value[3], 2, True))),
        )
        for place, (error, change) in enumerate(wrong):
            self.told(error, change(RUN))
            for _, further in wrong[place + 1:]:
                self.told(error, change(further(RUN)))


class WithRunsThatAreTold(Judged):
    def test_of_each_book_its_own_run(self):
        for book in some_books(23):
            run = losing(book)
            if run is not None:
                self.told(None, run, book)
            else:
                self.assertIsNone(slip(book))

    def test_of_a_safe_book_something_is_wrong_with_each_run(self):
        runs = [losing(book) for book in some_books(997)]
        for book in safe_books()[::29] + [VALUES, SIGNALS, REWORK, TRACED]:
            for run in runs:
                if run is not None:
                    error = losing_error(book, run)
                    self.assertTrue(error in ("open", "right") or error[0] == "order", error)

    def test_of_other_books(self):
        books = some_books(1999) + [WRONG, LATE]
        for one in books:
            run = losing(one)
            if run is None:
                continue
            for other in books:
                self.told(self.slow_error(other, run), run, other)

    def slow_error(self, book, run):
        """What is wrong with a run whose parts are all right but for its order."""
        sheet, row, programs, order = run
        standing = start(sheet, row, programs)
        for place, hand in enumerate(order):
            if hand not in hands_that_can(book, standing):
                return "order", place
            standing = step(book, sheet, standing, hand)
        if not has_ended(standing):
            return "open"
        return None if looked_wrong(book, sheet, standing) else "right"

    def test_with_parts_changed(self):
        run = losing(WRONG)
        for place, words in ((0, ("sheet", "form")), (1, "row"), (2, "form"), (3, "form")):
            for value in (None, True, 10 ** 399, "x", [0], {}):
                self.told(words, with_item(run, place, value), WRONG)
        self.told(("program", 0), with_item(run, 2, ((None,),)), WRONG)
        self.told(("order", 0), with_item(run, 3, ("x",)), WRONG)
        self.told("open", with_item(run, 3, ()), WRONG)
        self.told(("order", len(run[3])), with_item(run, 3, run[3] + (0,)), WRONG)
        self.told("form", list(run), WRONG)
        for value in (losing(VALUES), RUN[0], (VALUES,), VALUES, start(*RUN[:3]), (RUN, RUN, RUN, RUN)):
            self.assertIsNotNone(losing_error(WRONG, value))

    def test_each_word_of_the_book(self):
        for place, words in enumerate(ENTRY_WORDS):
            for word in words:
                book = with_item(LATE, place, word)
                self.told(self.slow_error(book, RUN), RUN, book)


class Calls(unittest.TestCase):
    def test_by_place_and_by_name(self):
        for value in (*ODD_VALUES, RUN, list(RUN), with_item(RUN, 3, [0]), with_item(RUN, 3, RUN[3] * 30),
                      with_item(RUN, 2, (SET, LOOK, SET)), (SINGLE, (0,), (LOOK,), (0,) * 7), losing(WRONG)):
            for book in (LATE, VALUES, WRONG):
                check_calls(self, losing_error, book=book, value=value)
