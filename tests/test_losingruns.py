"""G4, and G6 as far as it speaks of losing: runs behind which something is told wrongly."""

import itertools
import unittest

from keptmarks.knownbooks import known_book, known_names
from keptmarks.losingjudge import losing_error
from keptmarks.losingruns import losing
from keptmarks.safety import slip
from keptmarks.sheets import sheet_error
from keptmarks.standings import can_step, has_ended, start
from keptmarks.steps import step
from tests.samples import (
    ENTRY_WORDS, NEVER, REWORK, SIGNALS, TRACED, VALUES, book_with, check_calls, some_books, with_item,
)
from tests.test_onerun import slow_last_look
from tests.test_safety import WRONG, safe_books
from tests.test_weavesearch import looked_wrong, slow_wrong


class Examples(unittest.TestCase):
    def test_safe_ones(self):
        self.assertEqual([losing(VALUES), losing(SIGNALS)], [None, None])

    def test_others(self):
        books = (book_with(VALUES, write="last"), WRONG, book_with(VALUES, hands="any"),
                 book_with(VALUES, strike="unless"))
        self.assertEqual([losing_error(book, losing(book)) for book in books], [None] * 4)


class LosingRuns(unittest.TestCase):
    def check_form(self, run):
        """Check that a run is a quadruple as small as is told."""
        self.assertIs(type(run), tuple)
        sheet, row, programs, order = run
        self.assertIsNone(sheet_error(sheet))
        self.assertIn(len(sheet[1]), (1, 2))
        self.assertIs(type(row), tuple)
        self.assertEqual(len(row), sheet[0])
        self.assertLessEqual(set(row), {0, 1, 2, 3})
        self.assertIs(type(programs), tuple)
        self.assertIn(len(programs), (1, 2))
        for program in programs:
            self.assertIs(type(program), tuple)
            self.assertLessEqual(len(program), 200)
            for word, cell, *more in program:
                self.assertIn((word, len(more)), (("look", 0), ("set", 1)))
                self.assertIn(cell, range(sheet[0] + len(sheet[1]) if word == "look" else sheet[0]))
                self.assertLessEqual(set(more), {0, 1, 2, 3})
        self.assertIs(type(order), tuple)
        self.assertLessEqual(len(order), 200)

    def check_run(self, book, run):
        """Go through a run step by step, and look at each cell from where it ends."""
        sheet, row, programs, order = run
        standing = start(sheet, row, programs)
        for hand in order:
            self.assertIn(hand, range(len(programs)))
            self.assertTrue(can_step(book, standing, hand), book)
            standing = step(book, sheet, standing, hand)
        self.assertTrue(has_ended(standing), book)
        self.assertNotEqual(looked_wrong(book, sheet, standing), (), book)

    def test_all_books(self):
        safe = 0
        seen = {}
        for book in itertools.product(*ENTRY_WORDS):
            run = losing(book)
            self.assertEqual(run is None, slip(book) is None, book)
            if run is None:
                safe += 1
                continue
            if run not in seen:
                self.check_form(run)
            seen[run] = seen.get(run, 0) + 1
            self.check_run(book, run)
            if seen[run] <= 3:
                self.assertIsNone(losing_error(book, run))
        self.assertEqual(safe, 896)

    def test_beside_a_slow_reckoning(self):
        # Books of each number, those of the rarer ones more often.
        wanted = {1: 150, 2: 60, 3: 10, 4: 4, 6: 18, 7: 18, 8: 9, 9: 5}
        count = dict.fromkeys(wanted, 0)
        for book in itertools.product(*ENTRY_WORDS):
            number = slip(book)
            if number is not None:
                count[number] += 1
                if count[number] % wanted[number] == 0:
                    sheet, row, programs, order = losing(book)
                    self.assertNotEqual(slow_wrong(book, sheet, row, programs, order), (), book)
                    if len(programs) == 1:
                        looks = [slow_last_look(book, sheet, row, programs[0] + (("look", cell),))
                                 for cell in range(sheet[0] + len(sheet[1]))]
                        self.assertTrue(any(told != true for told, true in looks))
        self.assertEqual(sum(count.values()), 69984 - 896)

    def test_all_neighbours_of_some_safe_books(self):
        for book in safe_books()[::16] + [VALUES, SIGNALS, REWORK, TRACED]:
            self.assertIsNone(losing(book))
            for place, words in enumerate(ENTRY_WORDS):
                for word in words:
                    other = with_item(book, place, word)
                    run = losing(other)
                    self.assertEqual(run is None, slip(other) is None)
                    if run is not None:
                        self.check_form(run)
                        self.check_run(other, run)
                        self.assertIsNone(losing_error(other, run))

    def test_known_books(self):
        for name in known_names():
            book = known_book(name)
            if name in ("signals", "values", "rework", "remark"):
                self.assertIsNone(losing(book))
            else:
                sheet, row, programs, order = losing(book)
                self.assertNotEqual(slow_wrong(book, sheet, row, programs, order), (), name)

    def test_what_is_safe_alone_loses_by_two_hands(self):
        for words in ({"write": "last"}, {"enter": "behind"}, {"hands": "any"}, {"strike": "behind"},
                      {"strike": "unless"}):
            self.assertEqual(len(losing(book_with(VALUES, **words))[2]), 2)
        for book in (NEVER, book_with(VALUES, perhaps="answer")):
            self.check_form(losing(book))


class Calls(unittest.TestCase):
    def test_by_place_and_by_name(self):
        for book in some_books(1009) + [VALUES, SIGNALS, REWORK, WRONG]:
            check_calls(self, losing, book=book)
