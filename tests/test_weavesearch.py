"""F3 and F4: what is told wrongly behind weavings, and the first order that leads there."""

import random
import unittest

from keptmarks.errors import TooMany
from keptmarks.knownbooks import known_book
from keptmarks.standings import can_step, has_ended, start
from keptmarks.steps import after, step, told
from keptmarks.weavesearch import may_lose, wrongly_told
from keptmarks.weaving import woven
from tests.samples import (
    COPIES, COPY, EIGHT, ENTRY_WORDS, NEVER, PAIR, SIGNALS, TRACED, VALUES, book_with, check_calls, made_book,
    made_deeds, made_lively_deeds, made_lively_sheet, made_row, with_item,
)
from tests.slowhands import SlowHands
from tests.test_asking import slow_walk
from tests.test_hands import hands_that_can
from tests.test_safety import safe_books
from tests.test_weaving import each_order

LATE = book_with(TRACED, strike="behind")
SHARED = book_with(TRACED, hands="any")
LOOK, SET, IDLE = (("look", 1),), (("set", 0, 1),), (("set", 0, 0),)


def looked_wrong(book, sheet, standing):
    """The cells that are told wrongly from a standing: each looked at step by step, from this standing itself."""
    wrong = []
    for cell in range(sheet[0] + len(sheet[1])):
        looking = standing[:3] + (((((("look", cell),), ()),)),)
        answer = None
        while can_step(book, looking, 0):
            answer = told(book, sheet, looking, 0)
            looking = step(book, sheet, looking, 0)
        if answer != slow_walk(sheet, standing[0], cell)[1]:
            wrong.append(cell)
    return tuple(wrong)


def slow_wrong(book, sheet, row, programs, order):
    """The cells that are told wrongly behind an order, by the slow reckoning: a further hand looks in the end."""
    wrong = []
    for cell in range(sheet[0] + len(sheet[1])):
        slow = SlowHands(book, sheet, row, programs + ((("look", cell),),))
        for hand in order:
            slow.turn(hand)
        answer = None
        while not slow.ended(len(programs)):
            answer = slow.turn(len(programs))
        if answer != slow_walk(sheet, tuple(slow.values), cell)[1]:
            wrong.append(cell)
    return tuple(wrong)


def drawn_order(book, sheet, row, programs, dice):
    """A drawn whole order and the standing behind it."""
    standing, order = start(sheet, row, programs), ()
    while not has_ended(standing):
        hand = dice.choice(hands_that_can(book, standing))
        standing, order = step(book, sheet, standing, hand), order + (hand,)
    return order, standing


def made_programs(dice, sheet, row):
    """One hand that looks, and maybe looks or sets then, and another one that sets, and maybe looks then."""
    x = dice.randrange(sheet[0])
    write = (("set", x, (row[x] + dice.randrange(1, 4)) % 4),)
    look = (("look", sheet[0] + dice.randrange(len(sheet[1]))),)
    programs = [look + made_lively_deeds(dice, sheet, 2)[:dice.randrange(2)], write + look * dice.randrange(2)]
    dice.shuffle(programs)
    return tuple(programs)


def first_of_all_orders(book, sheet, row, programs):
    """The first losing one of all whole orders, shorter ones first, lesser ones first."""
    orders = list(each_order(book, sheet, start(sheet, row, programs), len(programs)))
    wrong = {}
    for order, last in sorted(orders, key=lambda found: (len(found[0]), found[0])):
        if last not in wrong:
            wrong[last] = looked_wrong(book, sheet, last)
        if wrong[last]:
            return order
    return None


def first_from_the_end(book, sheet, row, programs):
    """The same, by way of what is the first one from each standing on."""
    found = {}

    def first_from(standing):
        if standing not in found:
            if has_ended(standing):
                found[standing] = () if looked_wrong(book, sheet, standing) else None
            else:
                longer = [(hand, first_from(step(book, sheet, standing, hand)))
                          for hand in hands_that_can(book, standing)]
                orders = [(hand,) + order for hand, order in longer if order is not None]
                found[standing] = min(orders, key=lambda order: (len(order), order)) if orders else None
        return found[standing]
    return first_from(start(sheet, row, programs))


class Examples(unittest.TestCase):
    def test_look_and_set(self):
        programs = (LOOK, SET)
        self.assertIsNone(may_lose(TRACED, COPY, (0,), programs))
        self.assertIsNone(may_lose(LATE, COPY, (0,), (LOOK + SET,)))
        order = may_lose(LATE, COPY, (0,), programs)
        self.assertEqual(order, (0, 0, 0, 0, 0, 0, 1, 1, 1, 1, 1, 0, 1))
        behind = after(LATE, COPY, start(COPY, (0,), programs), order)
        self.assertEqual(wrongly_told(LATE, COPY, behind), (1,))
        self.assertEqual(behind[1], ((0, 0, ((0, 0),), True, None),))

    def test_other_books(self):
        told_then = [may_lose(with_item(TRACED, at, word), COPY, (0,), (LOOK, SET))
                     for at, word in ((7, "last"), (9, "behind"))]
        self.assertEqual(told_then, [(0, 0, 1, 1, 1, 0, 0, 0, 0, 0, 1), (0, 0, 0, 0, 1, 1, 1, 1, 0, 0, 0)])
        self.assertIsNone(may_lose(SHARED, COPY, (0,), (LOOK, SET)))
        self.assertIsNone(may_lose(TRACED, PAIR, (0,), ((("look", 2),), SET)))
        self.assertEqual(
            may_lose(SHARED, COPY, (0,), (LOOK, LOOK, SET)),
            (0, 0, 0, 0, 0, 1, 2, 2, 2, 2, 2, 1, 1, 1, 1, 1, 0, 0, 0, 1, 2))


class WronglyTold(unittest.TestCase):
    def test_behind_drawn_runs(self):
        seen = {}
        for number in range(900):
            dice = random.Random(31000 + number)
            book, sheet = made_book(dice), made_lively_sheet(dice, dice.choice((2, 3, 4)))
            row = made_row(dice, sheet)
            programs = tuple(made_lively_deeds(dice, sheet, dice.randrange(5)) for _ in range(dice.randrange(1, 4)))
            order, last = drawn_order(book, sheet, row, programs, dice)
            wrong = wrongly_told(book, sheet, last)
            self.assertIs(type(wrong), tuple)
            self.assertEqual(wrong, looked_wrong(book, sheet, last))
            self.assertEqual(wrong, slow_wrong(book, sheet, row, programs, order))
            self.assertEqual(wrong, tuple(sorted(set(wrong))))
            self.assertTrue(all(sheet[0] <= cell < sheet[0] + len(sheet[1]) for cell in wrong))
            key = len(programs), min(len(wrong), 2)
            seen[key] = seen.get(key, 0) + 1
        self.assertEqual(sorted(seen), [(hands, many) for hands in (1, 2, 3) for many in (0, 1, 2)])
        self.assertGreater(min(seen.values()), 10)

    def test_where_nothing_was_done(self):
        for book in (NEVER, VALUES, SIGNALS):
            for sheet in (COPY, PAIR, EIGHT, (0, (3,)), (3, (0, (2, (1, 0))))):
                row = (2,) * sheet[0]
                for programs in (((),), ((), ()), ((), (), ())):
                    self.assertEqual(wrongly_told(book, sheet, start(sheet, row, programs)), ())

    def test_cells_in_order(self):
        for look in (1, 2, 3):
            _, last = drawn_order(NEVER, COPIES, (0,), ((("look", look),) + SET,), random.Random(1))
            # What was not worked out is worked out from cells that are wrong.
            self.assertEqual(wrongly_told(NEVER, COPIES, last), (1, 2, 3))
        sheet = (1, ((0, (0, 1)), (0, (0, 1)), (0, (0, 1))))
        for looks in ((1,), (3,), (1, 3), (2, 3), (3, 1)):
            order, last = drawn_order(
                NEVER, sheet, (0,), (tuple(("look", cell) for cell in looks) + SET,), random.Random(1))
            self.assertEqual(wrongly_told(NEVER, sheet, last), tuple(sorted(looks)))

    def test_each_cell_is_looked_at_from_the_standing_itself(self):
        # A look at the cell 1 would mark the cell 2, which would be true then; without it the cell 2 is told wrongly.
        book = book_with(TRACED, further="none")
        _, last = drawn_order(book, COPIES, (0,), ((("look", 2),) + SET,), random.Random(1))
        self.assertEqual([cell[:2] for cell in last[1]], [(0, 2), (0, 0), (None, 0)])
        self.assertEqual(wrongly_told(book, COPIES, last), (2, 3))
        # Nor does a look at the cell 3 ahead of the others make any of them clean.
        sheet = (1, ((0, (0, 1)), (1, (0, 1)), (0, (0, 1))))
        _, last = drawn_order(book, sheet, (0,), ((("look", 2), ("look", 3)) + SET,), random.Random(1))
        self.assertEqual(wrongly_told(book, sheet, last), (2,))

    def test_inputs_are_never_told_wrongly(self):
        for book in (NEVER, LATE, book_with(VALUES, write="last")):
            for value in range(4):
                _, last = drawn_order(
                    book, (2, (0,)), (3, 3), ((("set", 0, value),), (("set", 1, value), ("look", 0))), random.Random(2))
                self.assertEqual(wrongly_told(book, (2, (0,)), last), ())

    def test_true_for_what_the_inputs_have_then(self):
        _, last = drawn_order(NEVER, COPY, (0,), (LOOK + SET + IDLE,), random.Random(1))
        self.assertEqual(wrongly_told(NEVER, COPY, last), ())
        _, last = drawn_order(NEVER, COPY, (0,), (LOOK + SET,), random.Random(1))
        self.assertEqual(wrongly_told(NEVER, COPY, last), (1,))

    def test_nothing_of_the_standing_changes(self):
        _, last = drawn_order(VALUES, PAIR, (0,), ((("look", 2),) + SET,), random.Random(1))
        before = repr(last)
        self.assertEqual([wrongly_told(VALUES, PAIR, last) for _ in range(3)], [()] * 3)
        self.assertEqual(repr(last), before)


class BesideSlowSearches(unittest.TestCase):
    def check_all_orders(self, book, sheet, row, programs):
        expected = first_of_all_orders(book, sheet, row, programs)
        self.assertEqual(may_lose(book, sheet, row, programs), expected, (book, programs))
        return expected

    def check_from_the_end(self, book, sheet, row, programs):
        expected = first_from_the_end(book, sheet, row, programs)
        self.assertEqual(may_lose(book, sheet, row, programs), expected, (book, programs))
        return expected

    def turned(self, book):
        """The books with one entry turned."""
        return [with_item(book, place, word) for place, words in enumerate(ENTRY_WORDS) for word in words]

    def test_a_look_and_a_set_with_one_entry_turned(self):
        found = [self.check_all_orders(book, COPY, (0,), (LOOK, SET)) for book in self.turned(TRACED)]
        self.assertGreater(len(set(found)), 4)
        for book in self.turned(VALUES):
            self.check_from_the_end(book, COPY, (0,), (SET, LOOK))

    def test_a_look_above_and_a_set_with_one_entry_turned(self):
        for book in self.turned(TRACED):
            self.check_from_the_end(book, PAIR, (0,), ((("look", 2),), SET))

    def test_two_looks_and_a_set(self):
        found = []
        for book in self.turned(book_with(VALUES, hands="any"))[::2] + [SHARED]:
            found.append(self.check_from_the_end(book, COPY, (0,), (LOOK, LOOK, SET)))
            found.append(self.check_from_the_end(book, COPY, (0,), (LOOK + LOOK, SET)))
            found.append(self.check_from_the_end(book, COPY, (0,), (SET + LOOK, LOOK)))
        self.assertGreater(sum(order is not None for order in found), 30)
        self.assertIn(None, found)

    def test_one_hand_that_looks_sets_and_looks(self):
        for book in self.turned(VALUES) + self.turned(SIGNALS) + self.turned(NEVER):
            for programs in ((LOOK + SET + LOOK,), ((("look", 2),) + SET,), (IDLE,), (SET + LOOK,)):
                self.check_all_orders(book, PAIR, (0,), programs)

    def test_hands_without_a_deed(self):
        for book in self.turned(LATE)[::3] + [LATE]:
            for programs in ((LOOK, (), SET), ((), LOOK, SET), (SET, LOOK, ()), ((), LOOK + SET)):
                self.check_all_orders(book, COPY, (0,), programs)
        for book in (VALUES, NEVER):
            for programs in (((),), ((), ()), ((), (), ())):
                self.assertIsNone(may_lose(book, COPY, (0,), programs))

    def test_three_hands_with_a_deed_each(self):
        for number in range(25):
            dice = random.Random(700 + number)
            programs = tuple(made_deeds(dice, COPY, 1) for _ in range(3))
            self.check_from_the_end(made_book(dice), COPY, (0,), programs)

    def test_drawn_ones(self):
        found = []
        for number in range(120):
            dice = random.Random(800 + number)
            sheet = made_lively_sheet(dice, 2)
            row = made_row(dice, sheet)
            book = dice.choice((made_book(dice), dice.choice(self.turned(TRACED)), dice.choice(self.turned(LATE))))
            found.append(self.check_from_the_end(book, sheet, row, made_programs(dice, sheet, row)))
        self.assertGreater(sum(order is not None for order in found), 20)
        self.assertGreater(sum(order is None for order in found), 20)

    def test_one_hand_with_some_hundred_deeds(self):
        deeds = (("look", 2), ("set", 0, 1)) + (("look", 1), ("set", 0, 2), ("look", 2), ("set", 0, 1)) * 49
        for book in (VALUES, SIGNALS, NEVER, book_with(VALUES, perhaps="answer"), book_with(VALUES, further="none")):
            order, last = drawn_order(book, PAIR, (0,), (deeds,), random.Random(1))
            expected = order if looked_wrong(book, PAIR, last) else None
            self.assertEqual(expected is None, book in (VALUES, SIGNALS))
            self.assertEqual(may_lose(book, PAIR, (0,), (deeds,)), expected)

    def test_the_last_set_makes_it_true_again(self):
        for many, expected in ((1, True), (2, False), (3, True)):
            deeds = LOOK + (SET + IDLE + SET)[:many]
            self.assertEqual(may_lose(NEVER, COPY, (0,), (deeds,)) is not None, expected)


class TooManyStandings(unittest.TestCase):
    def too_many(self, book, sheet, row, programs):
        for _ in range(2):
            with self.assertRaises(TooMany) as caught:
                may_lose(book, sheet, row, programs)
            self.assertEqual(caught.exception.limit, 20000)

    def test_just_20000_and_none(self):
        self.assertIsNone(may_lose(VALUES, COPY, (0,), (IDLE * 199, IDLE * 99)))
        self.too_many(VALUES, COPY, (0,), (IDLE * 199, IDLE * 100))
        self.too_many(VALUES, COPY, (0,), (IDLE * 24, IDLE * 25, IDLE * 31))

    def losing_steps(self, many):
        """A program of so many steps behind which the cell 1 is told wrongly by never."""
        order, _ = drawn_order(NEVER, COPY, (0,), (LOOK + SET,), random.Random(1))
        return LOOK + SET + (("set", 0, 1),) * (many - len(order))

    def test_just_20000_and_an_order(self):
        programs = ((("look", 0),) * 99, self.losing_steps(99))
        self.assertEqual(woven(NEVER, COPY, (0,), programs), 199 * 100)
        self.assertEqual(may_lose(NEVER, COPY, (0,), programs), (0,) * 198 + (1,) * 99)
        self.too_many(NEVER, COPY, (0,), ((("look", 0),) * 100, programs[1]))
        # 160 standings of 159 steps, 125 of 124.
        programs = (self.losing_steps(159), (("look", 0),) * 62)
        self.assertEqual(woven(NEVER, COPY, (0,), programs), 20000)
        self.assertEqual(may_lose(NEVER, COPY, (0,), programs), (0,) * 159 + (1,) * 124)
        self.too_many(NEVER, COPY, (0,), (self.losing_steps(160), programs[1]))

    def test_where_an_order_would_be_found_ahead_of_that(self):
        # Without the last deeds an order is found; with them more than 20000 standings come, most of them behind it.
        self.assertIsNotNone(may_lose(LATE, COPY, (0,), (LOOK, SET)))
        self.too_many(LATE, COPY, (0,), (LOOK + IDLE * 150, SET + (("set", 0, 1),) * 150))
        self.too_many(NEVER, EIGHT, (0,), ((("look", 8),) * 40, SET + (("look", 8),) * 40, IDLE * 40))
        # Shorter orders end ahead of the 20000th standing: a set to what is there by then is done by one step.
        programs = (LOOK + SET + (("set", 0, 1),) * 120, SET + (("set", 0, 1),) * 160)
        self.too_many(NEVER, COPY, (0,), programs)

    def test_where_no_order_would_be_found(self):
        deeds = (("look", 2), ("set", 0, 1), ("look", 2))
        self.too_many(TRACED, PAIR, (0,), (deeds, deeds, deeds))
        self.too_many(VALUES, EIGHT, (0,), ((("look", 8),) * 150, (("look", 0),) * 150))

    def test_only_where_woven_raises_it(self):
        for number in range(12):
            dice = random.Random(number)
            programs = tuple((("set", 0, 0),) * dice.randrange(100, 200) for _ in range(2))
            fits = (len(programs[0]) + 1) * (len(programs[1]) + 1) <= 20000
            if fits:
                self.assertIsNone(may_lose(VALUES, COPY, (0,), programs))
            else:
                self.too_many(VALUES, COPY, (0,), programs)


class WhatHolds(unittest.TestCase):
    def drawn(self, many, seed):
        for number in range(many):
            dice = random.Random(seed * 1000 + number)
            sheet = made_lively_sheet(dice, 2)
            row = made_row(dice, sheet)
            book = dice.choice((made_book(dice), LATE, book_with(VALUES, enter="behind"), SHARED))
            yield book, sheet, row, made_programs(dice, sheet, row), dice

    def test_programs_without_sets_and_without_looks(self):
        for book, sheet, row, programs, dice in self.drawn(60, 5):
            for word in ("look", "set"):
                some = tuple(tuple(deed for deed in program if deed[0] == word) for program in programs)
                self.assertIsNone(may_lose(book, sheet, row, some))
        for book in (NEVER, LATE, SHARED):
            self.assertIsNone(may_lose(book, COPY, (0,), (LOOK, LOOK, LOOK)))
            self.assertIsNone(may_lose(book, COPY, (0,), (SET, IDLE, (("set", 0, 2),))))

    def test_hands_that_change_places(self):
        for book, sheet, row, (one, other), dice in self.drawn(50, 6):
            orders = [may_lose(book, sheet, row, programs) for programs in ((one, other), (other, one))]
            if orders[0] is None:
                self.assertEqual(orders, [None, None])
            else:
                self.assertEqual(len(orders[0]), len(orders[1]))
                # The least one of the one programs is not greater than the turned one of the others.
                self.assertLessEqual(orders[0], tuple(1 - hand for hand in orders[1]))
                self.assertLessEqual(orders[1], tuple(1 - hand for hand in orders[0]))

    def test_a_hand_without_a_deed_more(self):
        for book, sheet, row, (one, other), dice in self.drawn(30, 7):
            order = may_lose(book, sheet, row, (one, other))
            for more, numbers in ((((), one, other), (1, 2)), ((one, (), other), (0, 2)), ((one, other, ()), (0, 1))):
                expected = None if order is None else tuple(numbers[hand] for hand in order)
                self.assertEqual(may_lose(book, sheet, row, more), expected)

    def test_an_order_that_is_told_is_whole_and_loses(self):
        many = 0
        for book, sheet, row, programs, dice in self.drawn(120, 8):
            order = may_lose(book, sheet, row, programs)
            if order is not None:
                many += 1
                self.assertIs(type(order), tuple)
                standing = start(sheet, row, programs)
                for hand in order:
                    self.assertIs(type(hand), int)
                    self.assertTrue(can_step(book, standing, hand))
                    standing = step(book, sheet, standing, hand)
                self.assertTrue(has_ended(standing))
                self.assertNotEqual(looked_wrong(book, sheet, standing), ())
                self.assertNotEqual(slow_wrong(book, sheet, row, programs, order), ())
                self.assertLess(len(order), woven(book, sheet, row, programs))
        self.assertGreater(many, 20)

    def test_safe_books(self):
        books = safe_books()
        for number, (_, sheet, row, programs, dice) in enumerate(self.drawn(60, 9)):
            self.assertIsNone(may_lose(books[number * 15 % len(books)], sheet, row, programs))
        for book in books[::30]:
            self.assertIsNone(may_lose(book, COPY, (0,), (LOOK, LOOK, SET)))
            self.assertIsNone(may_lose(book, PAIR, (0,), ((("look", 2),), SET + (("set", 0, 2),))))

    def test_known_books(self):
        # Those of which the document tells that something is lost with two hands.
        for name in ("early", "late", "unentered"):
            self.assertIsNotNone(may_lose(known_book(name), COPY, (0,), (LOOK, SET)), name)
        self.assertIsNotNone(may_lose(known_book("shared"), COPY, (0,), (LOOK, SET + LOOK)))
        for name in ("signals", "values", "rework", "remark"):
            self.assertIsNone(may_lose(known_book(name), COPY, (0,), (LOOK, SET + LOOK)), name)
            self.assertIsNone(may_lose(known_book(name), PAIR, (0,), ((("look", 2),), SET)), name)


class Calls(unittest.TestCase):
    def test_by_place_and_by_name(self):
        for book in (LATE, VALUES, NEVER):
            for programs in ((LOOK + SET,), (IDLE, LOOK)):
                check_calls(self, may_lose, book=book, sheet=COPY, row=(0,), programs=programs)
            _, last = drawn_order(book, PAIR, (0,), ((("look", 2),) + SET, LOOK), random.Random(1))
            check_calls(self, wrongly_told, book=book, sheet=PAIR, standing=last)
        check_calls(self, may_lose, book=LATE, sheet=COPY, row=(0,), programs=(LOOK, SET))

    def test_by_names_where_it_raises(self):
        for _ in range(2):
            with self.assertRaises(TooMany):
                may_lose(programs=(IDLE * 200, IDLE * 200), row=(0,), sheet=COPY, book=VALUES)
