"""A2: what holds over the whole program, and that what the functions tell of one book and one sheet fits together."""

import random
import unittest

from keptmarks.aloneruns import alone
from keptmarks.asking import true_value
from keptmarks.awaited import awaited_cells, lost_cells, wrong_cells
from keptmarks.books import can_stand, neighbours
from keptmarks.booktexts import book_text, read_book
from keptmarks.comparing import hasty, is_quiet, more_error, more_run, never_more
from keptmarks.errors import BadBook, TooMany, Unfit
from keptmarks.losingjudge import losing_error
from keptmarks.losingruns import losing
from keptmarks.onehand import safe_alone, slip_alone
from keptmarks.onerun import losing_alone, losing_alone_error
from keptmarks.rooms import Room
from keptmarks.safety import mended, safe, slip
from keptmarks.sheettexts import sheet_text
from keptmarks.shells import Shell
from keptmarks.standings import has_ended, kept_cells, start
from keptmarks.steps import after, step
from keptmarks.vain import no_vain, vain_run
from keptmarks.weavesearch import may_lose, wrongly_told
from keptmarks.weaving import how_many_orders, woven
from keptmarks.working import least_works, works
from tests.samples import (
    COPY, VALUES, book_with, made_book, made_deeds, made_lively_deeds, made_lively_sheet, made_row, made_small_sheet,
    some_books,
)
from tests.test_anyhands import drawn_weavings
from tests.test_awaited import standings_of_drawn_run
from tests.test_comparing import quiet_books
from tests.test_rooms import books_safe_alone
from tests.test_safety import safe_books
from tests.test_weavesearch import made_programs


def made_run(number):
    """A drawn sheet, a row of it and deeds."""
    dice = random.Random(number)
    sheet = made_lively_sheet(dice, dice.choice((2, 3, 5))) if number % 3 else made_small_sheet(dice, 4)
    drawn = made_lively_deeds if number % 2 else made_deeds
    return sheet, made_row(dice, sheet), drawn(dice, sheet, dice.randrange(16)), dice


def truly_told(sheet, row, deeds):
    """What the looks among deeds are told if it is true, None for sets."""
    told = []
    row = list(row)
    for word, cell, *value in deeds:
        if word == "set":
            row[cell] = value[0]
        told.append(None if word == "set" else true_value(sheet, tuple(row), cell))
    return tuple(told)


class OneHand(unittest.TestCase):
    """(a), and (c) for one hand."""

    def test_five_things_tell_it(self):
        many = 0
        for book in some_books(1)[:-1]:
            many += safe_alone(book)
            self.assertIs(safe_alone(book), slip_alone(book) is None)
        self.assertEqual(many, 10272)

    def test_every_look_is_told_the_true_value(self):
        books = books_safe_alone()
        for number in range(4000):
            sheet, row, deeds, dice = made_run(number)
            book = dice.choice(books)
            self.assertEqual(alone(book, sheet, row, deeds), truly_told(sheet, row, deeds), book)

    def test_otherwise_a_short_run_is_told(self):
        for book in some_books(61):
            run = losing_alone(book)
            self.assertEqual(run is None, safe_alone(book))
            if run is not None:
                self.assertNotEqual(alone(book, *run)[-1], truly_told(*run)[-1])
                self.assertIsNone(losing_alone_error(book, run))

    def test_one_hand_among_weavings(self):
        # A book that is safe for one hand loses nothing in a weaving of one; what one hand loses is such a weaving.
        books = books_safe_alone()
        for number in range(150):
            sheet, row, deeds, dice = made_run(number)
            self.assertIsNone(may_lose(dice.choice(books), sheet, row, (deeds[:6],)))
        for book in some_books(397):
            run = losing_alone(book)
            if run is not None:
                sheet, row, deeds = run
                order = may_lose(book, sheet, row, (deeds[:-1],))
                self.assertIsNotNone(order)
                last = after(book, sheet, start(sheet, row, (deeds[:-1],)), order)
                self.assertIn(deeds[-1][1], wrongly_told(book, sheet, last))


class AnyHands(unittest.TestCase):
    """(b), and (c) for two hands."""

    def test_eight_things_tell_it(self):
        books = some_books(1)[:-1]
        self.assertEqual(sum(safe(book) for book in books), 896)
        for book in books[::13]:
            self.assertIs(safe(book), slip(book) is None)
            self.assertEqual(losing(book) is None, safe(book))
            self.assertEqual(mended(book) == book, safe(book))
            if safe(book):
                self.assertTrue(safe_alone(book))
            if not safe_alone(book):
                self.assertFalse(safe(book))

    def test_losing_runs_are_weavings(self):
        for book in some_books(499):
            run = losing(book)
            if run is None:
                continue
            sheet, row, programs, order = run
            self.assertIsNone(losing_error(book, run))
            try:
                first = may_lose(book, sheet, row, programs)
            except TooMany:
                continue
            # The first of the shortest orders is no longer than the one that is told, and it is a losing run, too.
            self.assertLessEqual((len(first), first), (len(order), order))
            self.assertIsNone(losing_error(book, (sheet, row, programs, first)))
            self.assertGreater(woven(book, sheet, row, programs), len(order))
            self.assertGreaterEqual(how_many_orders(book, sheet, row, programs), 1)

    def test_safe_books_in_small_weavings(self):
        books = safe_books()
        for number in range(60):
            dice = random.Random(number)
            sheet = made_lively_sheet(dice, 2)
            row = made_row(dice, sheet)
            self.assertIsNone(may_lose(dice.choice(books), sheet, row, made_programs(dice, sheet, row)))

    def test_neighbours_of_a_safe_book_are_mended_by_one_entry(self):
        for book in safe_books()[::40]:
            for other in neighbours(book):
                near = mended(other)
                self.assertTrue(safe(near))
                self.assertIn(other, (near,) + neighbours(near))


class NothingInVain(unittest.TestCase):
    """(d)."""

    def test_exactly_those(self):
        books = books_safe_alone()
        self.assertEqual(sum(no_vain(book) for book in books), 2448)
        for book in books[::3]:
            run = vain_run(book)
            self.assertEqual(run is None, no_vain(book))
            if run is not None:
                self.assertGreater(sum(works(book, *run)), sum(least_works(*run)))
        for number in range(1500):
            sheet, row, deeds, dice = made_run(7000 + number)
            least = least_works(sheet, row, deeds)
            book = dice.choice(books)
            told = works(book, sheet, row, deeds)
            self.assertTrue(all(one >= other for one, other in zip(told, least)))
            if no_vain(book):
                self.assertEqual(told, least)

    def test_quiet_books_that_are_hasty_nowhere(self):
        for book in quiet_books():
            self.assertIs(no_vain(book), hasty(book) == ())
            self.assertEqual(vain_run(book) is None, hasty(book) == ())
            self.assertIs(never_more(book, VALUES), hasty(book) == ())


class Compared(unittest.TestCase):
    """(e)."""

    def test_runs_and_counts_agree(self):
        books = quiet_books()
        for number in range(1200):
            sheet, row, deeds, dice = made_run(9000 + number)
            one, other = dice.choice(books), dice.choice(books)
            run = more_run(one, other)
            self.assertEqual(run is None, never_more(one, other))
            counts = works(one, sheet, row, deeds), works(other, sheet, row, deeds)
            for spot, (few, many) in enumerate(zip(*counts)):
                error = more_error(one, other, (sheet, row, deeds, sheet[0] + spot))
                self.assertEqual(error, None if few > many else "work")
                if never_more(one, other):
                    self.assertEqual(error, "work")
            if run is not None:
                self.assertIsNone(more_error(one, other, run))

    def test_quiet_books_are_safe_alone(self):
        for book in some_books(3):
            if is_quiet(book):
                self.assertTrue(safe_alone(book))
            else:
                with self.assertRaises(Unfit):
                    hasty(book)


class Awaited(unittest.TestCase):
    """(f)."""

    def test_a_clean_cell_with_an_old_value_is_awaited(self):
        met = 0
        for book, sheet, row, programs, dice in drawn_weavings(700, 61, safe_books()):
            for standing in standings_of_drawn_run(book, sheet, row, programs, dice):
                wrong = wrong_cells(sheet, standing)
                self.assertLessEqual(set(wrong), set(awaited_cells(book, sheet, standing)))
                self.assertEqual(lost_cells(book, sheet, standing), ())
                met += wrong != ()
            self.assertEqual(wrongly_told(book, sheet, standing), ())
        self.assertGreater(met, 500)

    def test_what_other_books_lose_behind_losing_runs(self):
        for words in ({"write": "last"}, {"enter": "behind"}, {"hands": "any"}, {"strike": "behind"}):
            book = book_with(VALUES, **words)
            sheet, row, programs, order = losing(book)
            last = after(book, sheet, start(sheet, row, programs), order)
            self.assertNotEqual(lost_cells(book, sheet, last), ())
            self.assertLessEqual(set(lost_cells(book, sheet, last)), set(wrongly_told(book, sheet, last)))


class FitsTogether(unittest.TestCase):
    def test_rooms_and_runs_alone(self):
        books = books_safe_alone()
        for number in range(1200):
            sheet, row, deeds, dice = made_run(12000 + number)
            book = dice.choice(books)
            room = Room(book, sheet, row)
            told = []
            for word, *arguments in deeds:
                told.append(room.look(*arguments) if word == "look" else None)
                if word == "set":
                    room.put(*arguments)
            self.assertEqual(tuple(told), alone(book, sheet, row, deeds))
            self.assertEqual(room.worked, works(book, sheet, row, deeds))
            standing = start(sheet, row, (deeds,))
            while not has_ended(standing):
                standing = step(book, sheet, standing, 0)
            self.assertEqual((room.row, room.kept), (standing[0], kept_cells(standing)))
            self.assertEqual(wrong_cells(sheet, standing), ())
            self.assertLessEqual({mark for _, mark in room.kept}, {0, *can_stand(book)})

    def test_one_book_as_each_function_tells_it(self):
        shell = Shell()
        for number in range(1500):
            book = made_book(random.Random(number))
            self.assertEqual(read_book(book_text(book)), book)
            answer = shell.say("book " + " ".join(book))
            if safe(book):
                self.assertEqual(answer, "safe")
            elif safe_alone(book):
                self.assertEqual(answer, "alone")
                self.assertIn(slip(book), (6, 7, 8, 9))
            else:
                self.assertEqual(answer, f"slip {slip_alone(book)}")
                with self.assertRaises(Unfit):
                    vain_run(book)
                with self.assertRaises(BadBook) as caught:
                    Room(book, COPY, (0,))
                self.assertEqual(caught.exception.error, ("slip", slip_alone(book)))
            self.assertEqual(shell.say("sheet " + sheet_text(COPY)), "room" if safe_alone(book) else "error BadBook")
            expected = "error Unfit"
            if is_quiet(book):
                expected = " ".join(hasty(book)) if hasty(book) else "none"
            self.assertEqual(shell.say("hasty"), expected)
