"""E4 and E5: which books work nothing out in vain, and runs in which the other ones do."""

import itertools
import random
import unittest

from keptmarks.errors import Unfit
from keptmarks.onehand import safe_alone
from keptmarks.sheets import sheet_error
from keptmarks.vain import no_vain, vain_run
from keptmarks.working import least_works, works
from tests.samples import (
    ENTRY_WORDS, NEVER, REWORK, SIGNALS, TRACED, VALUES, book_with, check_calls, made_book, some_books,
)
from tests.test_working import HASTY, slow_least, slow_works


class Examples(unittest.TestCase):
    def test_no_vain(self):
        books = (VALUES, HASTY, book_with(VALUES, sure="answer"), book_with(VALUES, change="sure"))
        self.assertEqual([no_vain(book) for book in books], [True, False, True, False])

    def test_vain_run(self):
        self.assertIsNone(vain_run(VALUES))
        run = vain_run(HASTY)
        self.assertIsNotNone(run)
        self.assertGreater(sum(works(HASTY, *run)), sum(least_works(*run)))
        with self.assertRaises(Unfit):
            vain_run(book_with(VALUES, readers="none"))


class NoVain(unittest.TestCase):
    def test_each_combination(self):
        dice = random.Random(1)
        for readers, further, change in itertools.product(ENTRY_WORDS[0], ENTRY_WORDS[1], ENTRY_WORDS[6]):
            perhaps_stands = "perhaps" in (readers, further)
            sure_stands = "sure" in (readers, further, change)
            for perhaps, sure, check in itertools.product(ENTRY_WORDS[3], ENTRY_WORDS[4], ENTRY_WORDS[5]):
                expected = True
                if perhaps_stands and (perhaps, check) != ("check", "values"):
                    expected = False
                if sure_stands and (sure, check) != ("check", "values"):
                    expected = False
                # The other entries make no difference.
                for _ in range(8):
                    book = book_with(
                        made_book(dice), readers=readers, further=further, change=change, perhaps=perhaps, sure=sure,
                        check=check)
                    self.assertIs(no_vain(book), expected, book)

    def test_where_no_mark_can_stand(self):
        self.assertIs(no_vain(NEVER), True)
        self.assertIs(no_vain(book_with(NEVER, perhaps="work", sure="work", check="mark")), True)
        self.assertIs(no_vain(book_with(NEVER, change="sure")), False)

    def test_known_books(self):
        self.assertEqual([no_vain(book) for book in (VALUES, SIGNALS, REWORK, TRACED)], [True, False, False, False])

    def test_how_many_safe_books(self):
        self.assertEqual(sum(no_vain(book) for book in some_books(1)[:-1] if safe_alone(book)), 2448)


class VainRun(unittest.TestCase):
    def test_unfit(self):
        for book in (NEVER, book_with(VALUES, readers="none"), book_with(VALUES, further="none"),
                     book_with(VALUES, perhaps="answer"), book_with(VALUES, check="mark"),
                     book_with(SIGNALS, sure="check"), book_with(SIGNALS, strike="unless"),
                     book_with(SIGNALS, enter="behind")):
            with self.assertRaises(Unfit):
                vain_run(book)

    def test_unfit_ahead_of_none(self):
        book = book_with(NEVER, readers="none", further="none")
        self.assertIs(no_vain(book), True)
        with self.assertRaises(Unfit):
            vain_run(book)

    def test_all_books(self):
        for number, book in enumerate(some_books(1)[:-1]):
            if safe_alone(book):
                run = vain_run(book)
                self.assertEqual(run is None, no_vain(book), book)
                if run is not None:
                    self.check_run(book, run)
            elif number % 7 == 0:
                with self.assertRaises(Unfit):
                    vain_run(book)

    def check_run(self, book, run):
        self.assertIs(type(run), tuple)
        sheet, row, deeds = run
        self.assertIsNone(sheet_error(sheet))
        self.assertLessEqual(len(sheet[1]), 2)
        self.assertEqual(len(row), sheet[0])
        self.assertLessEqual(len(deeds), 5)
        more = [one > other for one, other in zip(works(book, *run), least_works(*run))]
        self.assertIn(True, more, book)

    def test_beside_a_slow_reckoning(self):
        books = [book for book in some_books(1)[:-1] if safe_alone(book) and not no_vain(book)]
        self.assertEqual(len(books), 10272 - 2448)
        for book in books[::9]:
            run = vain_run(book)
            told, least = slow_works(book, *run), slow_least(*run)
            self.assertTrue(any(one > other for one, other in zip(told, least)), book)


class Calls(unittest.TestCase):
    def test_by_place_and_by_name(self):
        for book in some_books(2003) + [VALUES, HASTY, SIGNALS, TRACED]:
            check_calls(self, no_vain, book=book)
            check_calls(self, vain_run, book=book)
