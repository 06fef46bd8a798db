"""F1, F2 and F4: all weavings of small programs, counted."""

import itertools
import math
import random
import unittest

from keptmarks.asking import true_value
from keptmarks.errors import TooMany
from keptmarks.standings import can_step, has_ended, start
from keptmarks.steps import step
from keptmarks.weaving import how_many_orders, woven
from tests.samples import (
    COPY, EIGHT, ENTRY_WORDS, NEVER, PAIR, SIGNALS, TRACED, VALUES, book_with, check_calls, formula_of_deep, made_book,
    made_deeds, made_row, made_small_sheet,
)
from tests.slowhands import SlowHands
from tests.test_aloneruns import step_by_step

LATE = book_with(TRACED, strike="behind")
LOOK, SET = (("look", 1),), (("set", 0, 1),)
IDLE = (("set", 0, 0),)


class SlowWeave:
    """All standings that come, each found by doing an order anew from the beginning."""

    def __init__(self, book, sheet, row, programs):
        self.begin = (book, sheet, row, programs)
        self.behind = {}
        orders = [()]
        for order in orders:
            found = self.done(order)
            if repr(found.standing()) in self.behind:
                continue
            can = [hand for hand in range(len(programs)) if found.can(hand)]
            self.behind[repr(found.standing())] = [order + (hand,) for hand in can]
            orders.extend(order + (hand,) for hand in can)

    def done(self, order):
        slow = SlowHands(*self.begin)
        for hand in order:
            slow.turn(hand)
        return slow

    def whole_orders(self):
        """How many whole orders there are: by the standings, each asked for once."""
        counted = {}

        def count(order):
            key = repr(self.done(order).standing())
            if key not in counted:
                counted[key] = sum(count(longer) for longer in self.behind[key]) if self.behind[key] else 1
            return counted[key]
        return count(())


def each_order(book, sheet, standing, hands):
    """All whole orders from a standing on, one by one."""
    if has_ended(standing):
        yield (), standing
    for hand in range(hands):
        if can_step(book, standing, hand):
            for order, last in each_order(book, sheet, step(book, sheet, standing, hand), hands):
                yield (hand,) + order, last


class Examples(unittest.TestCase):
    def test_without_a_deed_one_hand_and_two(self):
        programs = (((),), ((("look", 1), ("set", 0, 1)),), (LOOK, LOOK), (SET, (("set", 0, 2),)))
        told = [(woven(TRACED, COPY, (0,), some), how_many_orders(TRACED, COPY, (0,), some)) for some in programs]
        self.assertEqual(told, [(1, 1), (14, 1), (29, 16), (34, 70)])

    def test_look_and_set(self):
        self.assertEqual(woven(TRACED, COPY, (0,), (LOOK, SET)), 70)
        self.assertEqual(how_many_orders(TRACED, COPY, (0,), (LOOK, SET)), 1373)
        programs = ((("look", 2),), SET)
        told = [(woven(book, PAIR, (0,), programs), how_many_orders(book, PAIR, (0,), programs))
                for book in (TRACED, LATE)]
        self.assertEqual(told, [(135, 58701), (167, 58701)])


class BesideASlowSearch(unittest.TestCase):
    def check(self, book, sheet, row, programs):
        slow = SlowWeave(book, sheet, row, programs)
        self.assertEqual(woven(book, sheet, row, programs), len(slow.behind))
        self.assertEqual(how_many_orders(book, sheet, row, programs), slow.whole_orders())

    def test_one_hand(self):
        for number in range(40):
            dice = random.Random(number)
            sheet = made_small_sheet(dice, 3)
            self.check(made_book(dice), sheet, made_row(dice, sheet), (made_deeds(dice, sheet, 3),))

    def test_two_hands(self):
        for number in range(60):
            dice = random.Random(100 + number)
            sheet = made_small_sheet(dice, 2)
            programs = (made_deeds(dice, sheet, 1), made_deeds(dice, sheet, dice.randrange(1, 3)))
            self.check(made_book(dice), sheet, made_row(dice, sheet), programs)

    def test_two_hands_on_copy(self):
        dice = random.Random(1)
        for one, other in ((LOOK, SET), (SET, LOOK), (LOOK, LOOK), (SET, (("set", 0, 2),)), (SET, SET),
                           (LOOK + SET, LOOK), (LOOK, SET + LOOK), ((), LOOK)):
            for _ in range(4):
                self.check(made_book(dice), COPY, (0,), (one, other))

    def test_three_hands(self):
        for number in range(12):
            dice = random.Random(200 + number)
            programs = tuple(made_deeds(dice, COPY, dice.randrange(2)) for _ in range(3))
            self.check(made_book(dice), COPY, (0,), programs)
        self.check(VALUES, COPY, (0,), (IDLE, (("look", 0),), (("set", 0, 1),)))
        self.check(book_with(VALUES, hands="any"), COPY, (0,), (LOOK, (("look", 0),), IDLE))

    def test_each_order_one_by_one(self):
        for book in (TRACED, LATE, NEVER, book_with(VALUES, hands="any", enter="behind"), SIGNALS):
            for programs in ((LOOK, SET), (LOOK, LOOK), (IDLE, LOOK, IDLE)):
                orders = list(each_order(book, COPY, start(COPY, (0,), programs), len(programs)))
                self.assertEqual(how_many_orders(book, COPY, (0,), programs), len(orders))
                longest = max(len(order) for order, _ in orders)
                self.assertGreaterEqual(woven(book, COPY, (0,), programs), longest + 1)

    def test_orders_of_unlike_lengths_that_meet(self):
        # A set to what is there by then is done by one step, one to what is not yet there by four: all of these meet.
        programs = (SET, SET)
        orders = list(each_order(VALUES, COPY, start(COPY, (0,), programs), 2))
        self.assertEqual({len(order) for order, _ in orders}, {5, 8})
        self.assertEqual(len({repr(last) for _, last in orders}), 1)
        self.assertEqual(how_many_orders(VALUES, COPY, (0,), programs), len(orders))
        self.check(VALUES, COPY, (0,), programs)


class WhatHolds(unittest.TestCase):
    def both(self, book, sheet, row, programs):
        return woven(book, sheet, row, programs), how_many_orders(book, sheet, row, programs)

    def drawn(self, many, seed, hands):
        for number in range(many):
            dice = random.Random(seed * 1000 + number)
            sheet = made_small_sheet(dice, 2)
            programs = tuple(made_deeds(dice, sheet, 1) for _ in range(hands))
            yield made_book(dice), sheet, made_row(dice, sheet), programs

    def test_one_hand_alone(self):
        for number in range(80):
            dice = random.Random(number)
            sheet = made_small_sheet(dice, 4)
            book, row, deeds = made_book(dice), made_row(dice, sheet), made_deeds(dice, sheet, dice.randrange(12))
            steps = step_by_step(book, sheet, row, deeds)[1]
            self.assertEqual(self.both(book, sheet, row, (deeds,)), (steps + 1, 1))

    def test_no_deeds(self):
        for book in (VALUES, NEVER):
            for sheet in (COPY, PAIR, EIGHT):
                for programs in (((),), ((), ()), ((), (), ())):
                    self.assertEqual(self.both(book, sheet, (0,), programs), (1, 1))

    def test_hands_that_change_places(self):
        for book, sheet, row, programs in self.drawn(40, 1, 2):
            self.assertEqual(
                self.both(book, sheet, row, programs), self.both(book, sheet, row, programs[::-1]))
        for book in (TRACED, NEVER):
            told = {self.both(book, COPY, (0,), some) for some in itertools.permutations((LOOK, SET, IDLE))}
            self.assertEqual(len(told), 1)

    def test_a_program_that_is_empty_takes_no_part(self):
        for book, sheet, row, programs in self.drawn(30, 2, 2):
            told = self.both(book, sheet, row, programs)
            one, other = programs
            for more in (((), one, other), (one, (), other), (one, other, ())):
                self.assertEqual(self.both(book, sheet, row, more), told)
            told = self.both(book, sheet, row, (one,))
            for more in ((one, ()), ((), one), ((), one, ()), (one, (), ())):
                self.assertEqual(self.both(book, sheet, row, more), told)

    def test_looks_alone_leave_true_values(self):
        for book in (TRACED, LATE, NEVER, book_with(NEVER, hands="one")):
            programs = ((("look", 1),), (("look", 1),))
            for value in range(3):
                for _, last in each_order(book, COPY, start(COPY, (value,), programs), 2):
                    self.assertEqual(last[1][0][0], true_value(COPY, (value,), 1))

    def test_deep_formulas(self):
        # Standings hold what is left of formulas, as deep as these may be.
        sheet = (2, (formula_of_deep(0, 8), formula_of_deep(1, 8)))
        programs = ((("look", 2),), (("look", 3),))
        steps = [step_by_step(VALUES, sheet, (1, 2), program)[1] for program in programs]
        self.assertEqual(
            self.both(VALUES, sheet, (1, 2), programs),
            ((steps[0] + 1) * (steps[1] + 1), math.comb(sum(steps), steps[0])))

    def test_standings_that_differ_in_one_thing_alone(self):
        # The branches are alike, so what is left of the formula is, too; the reads are not.
        sheet = (1, ((0, (2, 2)),))
        slow = SlowWeave(VALUES, sheet, (0,), (LOOK, SET))
        self.assertEqual(woven(VALUES, sheet, (0,), (LOOK, SET)), len(slow.behind))


class TooManyStandings(unittest.TestCase):
    def idle(self, *many):
        """Programs of so many steps, none of which changes anything."""
        return tuple((("set", 0, 0),) * steps for steps in many)

    def too_many(self, book, sheet, row, programs):
        for function in (woven, how_many_orders):
            with self.assertRaises(TooMany) as caught:
                function(book, sheet, row, programs)
            self.assertEqual(caught.exception.limit, 20000)

    def test_just_20000(self):
        for steps in ((199, 99), (99, 199), (124, 159)):
            self.assertEqual(woven(VALUES, COPY, (0,), self.idle(*steps)), 20000)
            self.assertEqual(
                how_many_orders(VALUES, COPY, (0,), self.idle(*steps)), math.comb(sum(steps), steps[0]))
        self.assertEqual(woven(VALUES, COPY, (0,), self.idle(24, 24, 31)), 20000)
        self.assertEqual(
            how_many_orders(VALUES, COPY, (0,), self.idle(24, 24, 31)),
            math.factorial(79) // math.factorial(24) ** 2 // math.factorial(31))

    def test_a_little_more(self):
        # 158 * 127 = 20066, 82 * 244 = 20008, 3 * 59 * 113 = 20001.
        for steps in ((157, 126), (126, 157), (81, 200, 1), (2, 58, 112), (199, 100), (24, 25, 31)):
            self.assertGreater(math.prod(one + 1 for one in steps), 20000)
            self.too_many(VALUES, COPY, (0,), self.idle(*steps))

    def test_one_hand_of_as_many_steps(self):
        # The cell 2 reads the input 1 alone; each further one reads all of the further ones ahead, and the input 0.
        sheet = (2, ((1, (0, 1, 2)),) + tuple(reads_of_all(range(3, cell)) for cell in range(3, 10)))
        book = book_with(VALUES, stop="never")
        deeds = deeds_of_just(book, sheet, 19999)
        self.assertLess(len(deeds), 200)
        self.assertEqual(step_by_step(book, sheet, (0, 0), deeds)[1], 19999)
        self.assertEqual(woven(book, sheet, (0, 0), (deeds,)), 20000)
        self.assertEqual(how_many_orders(book, sheet, (0, 0), (deeds,)), 1)
        value = [deed for deed in deeds if deed[0] == "set"][-1]
        self.too_many(book, sheet, (0, 0), (deeds + (value,),))

    def test_weavings(self):
        deeds = (("look", 2), ("set", 0, 1), ("look", 2))
        self.too_many(TRACED, PAIR, (0,), (deeds, deeds, deeds))
        self.too_many(VALUES, EIGHT, (0,), (deeds * 20, deeds * 20))


def reads_of_all(cells):
    """A formula that reads all of these cells, and then the input 0."""
    formula = (0, (0, 1, 2))
    for cell in cells:
        formula = (cell, (formula,))
    return formula


def deeds_of_just(book, sheet, steps):
    """A program that takes one hand just so many steps: first what takes many, in the end what takes one."""
    standing = start(sheet, (0, 0), ((),))
    deeds = ()
    kinds = [0, 1, None]
    while steps:
        if kinds[0] is None:
            more = (("set", 1, standing[0][1]),)
        else:
            more = (("set", kinds[0], 2 if standing[0][kinds[0]] == 1 else 1), ("look", (9, 2)[kinds[0]]))
        behind, taken = standing[:3] + (((more, ()),),), 0
        while not has_ended(behind):
            behind = step(book, sheet, behind, 0)
            taken += 1
        if taken <= steps:
            standing, deeds, steps = behind, deeds + more, steps - taken
        else:
            kinds.pop(0)
    return deeds


class Calls(unittest.TestCase):
    def test_by_place_and_by_name(self):
        dice = random.Random(4)
        for programs in (((),), (LOOK,), (IDLE, SET)):
            for book in (VALUES, made_book(dice)):
                check_calls(self, woven, book=book, sheet=COPY, row=(0,), programs=programs)
                check_calls(self, how_many_orders, book=book, sheet=COPY, row=(0,), programs=programs)

    def test_by_names_in_another_order_where_it_raises(self):
        programs = ((("set", 0, 0),) * 200,) * 2
        for function in (woven, how_many_orders):
            for _ in range(2):
                with self.assertRaises(TooMany):
                    function(programs=programs, row=(0,), sheet=COPY, book=VALUES)

    def test_each_word(self):
        for place, words in enumerate(ENTRY_WORDS):
            for word in words:
                book = SIGNALS[:place] + (word,) + SIGNALS[place + 1:]
                slow = SlowWeave(book, COPY, (0,), (LOOK, SET))
                self.assertEqual(woven(book, COPY, (0,), (LOOK, SET)), len(slow.behind))
