"""C7, and C8 and D5 as far as they speak of alone: what one hand is told for its deeds."""

import random
import unittest

from keptmarks.aloneruns import alone
from keptmarks.errors import TooMany
from keptmarks.standings import has_ended, start
from keptmarks.steps import step, told
from tests.samples import (
    COPY, EIGHT, ENTRY_WORDS, NEVER, PAIR, SHEETS, SIGNALS, VALUES, book_with, check_calls, made_book, made_deeds,
    made_row, made_small_sheet, some_books,
)
from tests.slowhands import SlowHands


def step_by_step(book, sheet, row, deeds):
    """What is told deed by deed, and how many steps are done, by step and told one by one."""
    standing = start(sheet, row, (deeds,))
    answers = []
    steps = 0
    while not has_ended(standing):
        value = told(book, sheet, standing, 0)
        left = len(standing[3][0][0])
        begins = standing[3][0][1] == ()
        standing = step(book, sheet, standing, 0)
        steps += 1
        if standing[3][0][1] == ():
            answers.append(value)
            assert len(answers) == len(deeds) - left + (1 if begins else 0)
        else:
            assert value is None
    return tuple(answers), steps


def slow_alone(book, sheet, row, deeds):
    """What is told deed by deed, by the slow reckoning; None if more than 4000 steps are needed."""
    slow = SlowHands(book, sheet, row, (deeds,))
    answers = []
    for _ in range(4000):
        if slow.ended(0):
            return tuple(answers)
        value = slow.turn(0)
        if not slow.tasks[0]:
            answers.append(value)
    return tuple(answers) if slow.ended(0) else None


def deeds_of_steps(steps):
    """A program for the sheet eight, with values as the book, and how many of its steps are over."""
    deeds = ()
    value = 0
    while True:
        value = 1 - value
        more = (("set", 0, value), ("look", 8))
        if step_by_step(VALUES, EIGHT, (0,), deeds + more)[1] > steps:
            return deeds, steps - step_by_step(VALUES, EIGHT, (0,), deeds)[1]
        deeds += more


class Examples(unittest.TestCase):
    def test_examples(self):
        deeds = (("look", 2), ("set", 0, 1), ("look", 2), ("look", 0))
        self.assertEqual(alone(SIGNALS, PAIR, (0,), deeds), (1, None, 0, 1))
        self.assertEqual(alone(NEVER, PAIR, (0,), deeds[:3]), (1, None, 1))
        self.assertEqual(alone(NEVER, PAIR, (0,), ()), ())


class Programs(unittest.TestCase):
    def test_no_deed(self):
        for book in (VALUES, SIGNALS, NEVER):
            for sheet in SHEETS[:6]:
                told_then = alone(book, sheet, (0,) * sheet[0], ())
                self.assertEqual(told_then, ())
                self.assertIs(type(told_then), tuple)

    def test_looks_at_inputs(self):
        sheet = (3, (0,))
        deeds = (("look", 0), ("look", 2), ("set", 2, 3), ("look", 2), ("look", 1))
        for book in (VALUES, SIGNALS, NEVER):
            self.assertEqual(alone(book, sheet, (1, 2, 0), deeds), (1, 0, None, 3, 2))

    def test_sets_alone(self):
        for book in (VALUES, NEVER, book_with(VALUES, write="between"), book_with(VALUES, write="last")):
            deeds = (("set", 0, 1), ("set", 0, 1), ("set", 0, 0), ("set", 0, 3))
            self.assertEqual(alone(book, COPY, (0,), deeds), (None,) * 4)

    def test_sets_to_what_is_there(self):
        for book in (VALUES, SIGNALS, NEVER):
            deeds = (("set", 0, 2), ("look", 1), ("set", 0, 2), ("set", 0, 2), ("look", 0))
            self.assertEqual(alone(book, COPY, (2,), deeds), (None, 1, None, None, 2))

    def test_two_hundred_deeds(self):
        for book in (VALUES, SIGNALS, book_with(SIGNALS, strike="behind", write="last")):
            deeds = (("set", 0, 1), ("look", 2), ("set", 0, 0), ("look", 1)) * 50
            self.assertEqual(alone(book, PAIR, (0,), deeds), (None, 0, None, 1) * 50)
        deeds = (("look", 0), ("set", 0, 1)) * 100
        self.assertEqual(alone(NEVER, PAIR, (3,), deeds), (3, None) + (1, None) * 99)

    def test_an_old_value_is_told(self):
        stale = book_with(VALUES, perhaps="answer")
        self.assertEqual(alone(stale, COPY, (0,), (("look", 1), ("set", 0, 1), ("look", 1))), (0, None, 0))


class OneByOne(unittest.TestCase):
    def test_the_same_as_step_and_told(self):
        for number in range(500):
            dice = random.Random(number)
            sheet = made_small_sheet(dice, dice.choice((3, 6)))
            book, row, deeds = made_book(dice), made_row(dice, sheet), made_deeds(dice, sheet, dice.randrange(12))
            self.assertEqual(alone(book, sheet, row, deeds), step_by_step(book, sheet, row, deeds)[0])

    def test_the_same_as_a_slow_reckoning(self):
        for number in range(1500):
            dice = random.Random(10000 + number)
            sheet = made_small_sheet(dice, dice.choice((3, 6)))
            book, row, deeds = made_book(dice), made_row(dice, sheet), made_deeds(dice, sheet, dice.randrange(16))
            self.assertEqual(alone(book, sheet, row, deeds), slow_alone(book, sheet, row, deeds))

    def test_large_sheets(self):
        dice = random.Random(5)
        for sheet in SHEETS[8:]:
            book, row, deeds = made_book(dice), made_row(dice, sheet), made_deeds(dice, sheet, 30)
            expected = slow_alone(book, sheet, row, deeds)
            if expected is not None:
                self.assertEqual(alone(book, sheet, row, deeds), expected)


class Steps(unittest.TestCase):
    def too_many(self, book, sheet, row, deeds):
        with self.assertRaises(TooMany) as caught:
            alone(book, sheet, row, deeds)
        self.assertEqual(caught.exception.limit, 4000)

    def test_just_4000_and_one_more(self):
        deeds, left = deeds_of_steps(4000)
        # A set to what is there takes one step.
        last = (("set", 0, [deed for deed in deeds if deed[0] == "set"][-1][2]),)
        self.assertEqual(step_by_step(VALUES, EIGHT, (0,), deeds + last * left)[1], 4000)
        self.assertLessEqual(len(deeds + last * (left + 1)), 200)
        self.assertEqual(len(alone(VALUES, EIGHT, (0,), deeds + last * left)), len(deeds) + left)
        self.too_many(VALUES, EIGHT, (0,), deeds + last * (left + 1))

    def test_the_last_deed_is_done_by_the_last_step(self):
        deeds, left = deeds_of_steps(3998)
        last = (("set", 0, [deed for deed in deeds if deed[0] == "set"][-1][2]),)
        # A look at an input takes two steps.
        self.assertEqual(alone(VALUES, EIGHT, (0,), deeds + last * left + (("look", 0),))[-1], last[0][2])
        self.too_many(VALUES, EIGHT, (0,), deeds + last * (left + 1) + (("look", 0),))

    def test_far_more(self):
        deeds = (("set", 0, 1), ("look", 8), ("set", 0, 0), ("look", 8)) * 50
        for book in (VALUES, SIGNALS, book_with(VALUES, stop="never")):
            self.too_many(book, EIGHT, (0,), deeds)
        dense = (1, tuple((0, (made_dense(cell),)) for cell in range(1, 9)))
        self.too_many(book_with(VALUES, stop="never"), dense, (0,), (("look", 8),) + (("set", 0, 1), ("set", 0, 2)) * 9)


def made_dense(cell):
    """A formula that reads all formulas' cells ahead of this one."""
    formula = 1
    for other in range(1, cell):
        formula = (other, (formula,))
    return formula


class WriteAndHands(unittest.TestCase):
    def test_their_words_change_nothing_in_what_one_hand_is_told(self):
        for number in range(300):
            dice = random.Random(20000 + number)
            sheet = made_small_sheet(dice, dice.choice((3, 5)))
            book, row, deeds = made_book(dice), made_row(dice, sheet), made_deeds(dice, sheet, 12)
            expected = alone(book, sheet, row, deeds)
            for write in ENTRY_WORDS[7]:
                for hands in ENTRY_WORDS[11]:
                    self.assertEqual(alone(book_with(book, write=write, hands=hands), sheet, row, deeds), expected)


class Calls(unittest.TestCase):
    def test_by_place_and_by_name(self):
        deeds = (("look", 2), ("set", 0, 1), ("look", 2))
        for book in some_books(9973):
            check_calls(self, alone, book=book, sheet=PAIR, row=(0,), deeds=deeds)
        many = (("set", 0, 1), ("look", 8), ("set", 0, 0), ("look", 8)) * 22
        check_calls(self, alone, book=VALUES, sheet=EIGHT, row=(0,), deeds=many[:8])
        many = (("set", 0, 1), ("look", 8), ("set", 0, 0), ("look", 8)) * 50
        with self.assertRaises(TooMany):
            alone(book=VALUES, sheet=EIGHT, row=(0,), deeds=many)
