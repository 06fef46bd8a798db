"""E1, E2, E3 and E5: how often cells are worked out, and how often at the least."""

import random
import unittest

from keptmarks.aloneruns import alone
from keptmarks.errors import TooMany
from keptmarks.onehand import safe_alone
from keptmarks.standings import has_ended, start
from keptmarks.steps import step
from keptmarks.vain import no_vain
from keptmarks.working import least_works, works
from tests.samples import (
    COPY, EIGHT, NEVER, SHEETS, SIGNALS, VALUES, book_with, check_calls, made_book, made_deeds, made_row,
    made_small_sheet, some_books,
)
from tests.slowhands import SlowHands
from tests.test_aloneruns import deeds_of_steps, step_by_step
from tests.test_asking import slow_walk

STAIRS = (1, ((0, (1, 1, 2)), (1, (0, 3, 0))))
DEEDS = (("look", 2), ("set", 0, 1), ("look", 2), ("set", 0, 2), ("look", 2))
HASTY = book_with(VALUES, perhaps="work")


def counted_by_step(book, sheet, row, deeds):
    """How often each cell is worked out: by the steps of work that keep a value."""
    counts = [0] * len(sheet[1])
    standing = start(sheet, row, (deeds,))
    while not has_ended(standing):
        tasks = standing[3][0][1]
        if tasks and tasks[-1][0] == "work" and tasks[-1][2] in (0, 1, 2, 3):
            counts[tasks[-1][1] - sheet[0]] += 1
        standing = step(book, sheet, standing, 0)
    return tuple(counts)


def slow_works(book, sheet, row, deeds):
    slow = SlowHands(book, sheet, row, (deeds,))
    while not slow.ended(0):
        slow.turn(0)
    return tuple(slow.worked.values())


def slow_least(sheet, row, deeds):
    """How often each cell counts, by the words of E3, each true read reckoned anew."""
    row = list(row)
    inputs, formulas = sheet
    reads_at_counts = {cell: [] for cell in range(inputs, inputs + len(formulas))}
    for deed in deeds:
        if deed[0] == "set":
            row[deed[1]] = deed[2]
            continue
        asked = {deed[1]} & set(reads_at_counts)
        while True:
            more = {read for cell in asked for read, _ in slow_walk(sheet, row, cell)[0]} & set(reads_at_counts)
            if more <= asked:
                break
            asked |= more
        for cell in asked:
            reads = slow_walk(sheet, row, cell)[0]
            if reads_at_counts[cell][-1:] != [reads]:
                reads_at_counts[cell].append(reads)
    return tuple(len(counts) for counts in reads_at_counts.values())


class Examples(unittest.TestCase):
    def test_stairs(self):
        self.assertEqual(least_works(STAIRS, (0,), DEEDS), (3, 2))
        self.assertEqual(works(VALUES, STAIRS, (0,), DEEDS), (3, 2))
        self.assertEqual(works(HASTY, STAIRS, (0,), DEEDS), (3, 3))

    def test_sets_and_looks_at_inputs(self):
        self.assertEqual(least_works(STAIRS, (0,), DEEDS[:1] + DEEDS[3:4]), (1, 1))
        self.assertEqual(least_works(STAIRS, (0,), (("look", 0), ("set", 0, 2))), (0, 0))
        self.assertEqual(works(VALUES, STAIRS, (2,), (("look", 1), ("look", 2))), (1, 1))

    def test_flips(self):
        flips = (("look", 1), ("set", 0, 2), ("set", 0, 0), ("look", 1))
        self.assertEqual(works(HASTY, STAIRS, (0,), flips), (2, 0))
        self.assertEqual(works(VALUES, STAIRS, (0,), flips), (1, 0))
        self.assertEqual(least_works(STAIRS, (0,), flips), (1, 0))


class Works(unittest.TestCase):
    def test_no_deed_looks_at_inputs_and_sets_alone(self):
        for book in (VALUES, SIGNALS, HASTY, NEVER):
            for deeds in ((), (("look", 0),), (("look", 0), ("look", 0)), (("set", 0, 1), ("set", 0, 2)),
                          (("set", 0, 0),), (("set", 0, 1), ("look", 0), ("set", 0, 0))):
                self.assertEqual(works(book, STAIRS, (0,), deeds), (0, 0))
                self.assertEqual(works(book, EIGHT, (0,), deeds), (0,) * 8)

    def test_beside_step_and_a_slow_reckoning(self):
        for number in range(1000):
            dice = random.Random(number)
            sheet = made_small_sheet(dice, dice.choice((3, 6)))
            book, row, deeds = made_book(dice), made_row(dice, sheet), made_deeds(dice, sheet, dice.randrange(16))
            told = works(book, sheet, row, deeds)
            self.assertEqual(told, slow_works(book, sheet, row, deeds))
            if number % 4 == 0:
                self.assertEqual(told, counted_by_step(book, sheet, row, deeds))

    def test_a_value_that_stays_counts(self):
        sheet = (1, ((0, (2, 2, 2, 2)),))
        deeds = (("look", 1), ("set", 0, 1), ("look", 1), ("set", 0, 2), ("look", 1))
        self.assertEqual(works(VALUES, sheet, (0,), deeds), (3,))

    def test_a_formula_that_is_a_value(self):
        self.assertEqual(works(VALUES, (1, (3, (1, (0, 1)))), (0,), (("look", 2), ("look", 1), ("look", 2))), (1, 1))

    def test_just_4000_steps_and_one_more(self):
        deeds, left = deeds_of_steps(4000)
        last = (("set", 0, [deed for deed in deeds if deed[0] == "set"][-1][2]),)
        self.assertEqual(step_by_step(VALUES, EIGHT, (0,), deeds + last * left)[1], 4000)
        told = works(VALUES, EIGHT, (0,), deeds + last * left)
        self.assertEqual(told, (len(deeds) // 2,) * 8)
        with self.assertRaises(TooMany) as caught:
            works(VALUES, EIGHT, (0,), deeds + last * (left + 1))
        self.assertEqual(caught.exception.limit, 4000)

    def test_too_many_as_alone(self):
        for many in range(60, 100, 3):
            deeds = (("set", 0, 1), ("look", 8), ("set", 0, 0), ("look", 8)) * (many // 2)
            fits = True
            try:
                alone(VALUES, EIGHT, (0,), deeds)
            except TooMany:
                fits = False
            if fits:
                self.assertEqual(len(works(VALUES, EIGHT, (0,), deeds)), 8)
            else:
                with self.assertRaises(TooMany):
                    works(VALUES, EIGHT, (0,), deeds)


class LeastWorks(unittest.TestCase):
    def test_no_deed_looks_at_inputs_and_sets_alone(self):
        for deeds in ((), (("look", 0),), (("look", 0), ("set", 0, 3), ("look", 0)), (("set", 0, 1), ("set", 0, 0))):
            self.assertEqual(least_works(STAIRS, (0,), deeds), (0, 0))
            self.assertEqual(least_works((1, (2, 3, (0, (0, 1)))), (0,), deeds), (0, 0, 0))

    def test_sets_to_what_is_there(self):
        look = (("look", 2),)
        self.assertEqual(least_works(STAIRS, (1,), look + (("set", 0, 1),) + look * 2), (1, 1))

    def test_an_input_that_changes_and_changes_back(self):
        look = (("look", 1),)
        away, back = (("set", 0, 2),), (("set", 0, 0),)
        self.assertEqual(least_works(COPY, (0,), look + away + back + look), (1,))
        self.assertEqual(least_works(COPY, (0,), look + away + look + back + look), (3,))

    def test_reads_that_are_others_with_the_same_value(self):
        # The value of the cell 1 stays; its true reads do not, so it counts, and the cell 2 does not.
        sheet = (1, ((0, (1, 1, 1, 1)), (1, (0, 3))))
        deeds = (("look", 2), ("set", 0, 3), ("look", 2))
        self.assertEqual(least_works(sheet, (0,), deeds), (2, 1))

    def test_asked_through_others_and_directly(self):
        deeds = (("look", 1), ("look", 2), ("look", 1), ("set", 0, 2), ("look", 1), ("look", 2))
        self.assertEqual(least_works(STAIRS, (0,), deeds), (2, 2))
        self.assertEqual(least_works(STAIRS, (0,), deeds[3:]), (1, 1))

    def test_what_is_not_asked_does_not_count(self):
        # Where the input 0 is 0 the cell 3 reads the cell 2, else it does not.
        sheet = (2, ((1, (0, 1, 2, 3)), (0, ((2, (0, 1)), 2))))
        deeds = (("look", 3), ("set", 0, 1), ("set", 1, 1), ("look", 3), ("set", 0, 0), ("look", 3))
        self.assertEqual(least_works(sheet, (0, 0), deeds[:4]), (1, 2))
        self.assertEqual(least_works(sheet, (0, 0), deeds), (2, 3))

    def test_compared_with_when_it_counted_last(self):
        sheet = (2, ((1, (0, 1, 2, 3)), (0, ((2, (0, 1)), 2))))
        deeds = (("look", 3), ("set", 0, 1), ("set", 1, 1), ("look", 3), ("set", 1, 0), ("set", 0, 0), ("look", 3))
        self.assertEqual(least_works(sheet, (0, 0), deeds), (1, 3))

    def test_a_formula_that_is_a_value(self):
        sheet = (1, (3, (1, (0, (0, (1, 2))))))
        self.assertEqual(least_works(sheet, (0,), (("look", 1), ("look", 1), ("set", 0, 1), ("look", 1))), (1, 0))

    def test_a_cell_that_is_read_twice(self):
        sheet = (1, ((0, (0, 1)), (1, ((1, (2, 3)), (1, (0, 1))))))
        self.assertEqual(least_works(sheet, (0,), (("look", 2), ("set", 0, 1), ("look", 2))), (2, 2))

    def test_beside_a_slow_reckoning(self):
        for number in range(600):
            dice = random.Random(number)
            sheet = made_small_sheet(dice, dice.choice((3, 6)))
            row, deeds = made_row(dice, sheet), made_deeds(dice, sheet, dice.randrange(20))
            self.assertEqual(least_works(sheet, row, deeds), slow_least(sheet, row, deeds))
        for sheet in SHEETS[6:16]:
            row, deeds = made_row(dice, sheet), made_deeds(dice, sheet, 12)
            self.assertEqual(least_works(sheet, row, deeds), slow_least(sheet, row, deeds))

    def test_deeds_behind_others_never_make_it_less(self):
        for number in range(200):
            dice = random.Random(5000 + number)
            sheet = made_small_sheet(dice, dice.choice((3, 6)))
            row, deeds = made_row(dice, sheet), made_deeds(dice, sheet, 14)
            before = (0,) * len(sheet[1])
            for many in range(len(deeds) + 1):
                told = least_works(sheet, row, deeds[:many])
                self.assertTrue(all(one <= other for one, other in zip(before, told)))
                before = told

    def test_large_programs(self):
        deeds = (("set", 0, 1), ("look", 8), ("set", 0, 0), ("look", 8)) * 50
        self.assertEqual(least_works(EIGHT, (0,), deeds), (100,) * 8)


class WhatHolds(unittest.TestCase):
    def test_never_less_and_the_same_where_nothing_is_in_vain(self):
        safe = [book for book in some_books(1) if safe_alone(book)]
        quick = [book for book in safe if no_vain(book)]
        self.assertEqual(len(quick), 2448)
        dice = random.Random(3)
        for number in range(1200):
            sheet = made_small_sheet(dice, dice.choice((3, 6)))
            row, deeds = made_row(dice, sheet), made_deeds(dice, sheet, dice.randrange(20))
            least = least_works(sheet, row, deeds)
            for book in dice.sample(safe, 4) + dice.sample(quick, 2):
                told = works(book, sheet, row, deeds)
                self.assertTrue(all(one >= other for one, other in zip(told, least)), (book, sheet, row, deeds))
                if no_vain(book):
                    self.assertEqual(told, least)


class Calls(unittest.TestCase):
    def test_by_place_and_by_name(self):
        for book in some_books(9973):
            check_calls(self, works, book=book, sheet=STAIRS, row=(0,), deeds=DEEDS)
        check_calls(self, works, book=VALUES, sheet=EIGHT, row=(0,), deeds=(("set", 0, 1), ("look", 8)))
        for deeds in (DEEDS, (), (("look", 0),)):
            check_calls(self, least_works, sheet=STAIRS, row=(0,), deeds=deeds)

    def test_kinds_of_what_is_told(self):
        for told in (works(VALUES, STAIRS, (0,), DEEDS), least_works(STAIRS, (0,), DEEDS)):
            self.assertEqual([type(told)] + [type(count) for count in told], [tuple, int, int])
