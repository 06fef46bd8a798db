"""G1 and G6: what holds of safe books for any hands, over drawn sheets, programs and orders."""

import random
import unittest

from keptmarks.asking import true_value
from keptmarks.safety import safe
from keptmarks.standings import can_step, has_ended, start
from keptmarks.steps import step, told
from keptmarks.weavesearch import wrongly_told
from tests.samples import (
    COPIES, EIGHT, SIGNALS, VALUES, book_with, made_book, made_deeds, made_lively_deeds, made_lively_sheet, made_row,
    made_small_sheet,
)
from tests.slowhands import SlowHands
from tests.test_asking import slow_walk
from tests.test_hands import hands_that_can
from tests.test_safety import safe_books
from tests.test_weavesearch import looked_wrong


def drawn_weavings(many, seed, books):
    """So many books of these, with sheets of one formula to four and programs of two hands and three."""
    for number in range(many):
        dice = random.Random(seed * 100000 + number)
        book, most = dice.choice(books), dice.randrange(1, 5)
        if dice.random() < 0.7:
            sheet = made_lively_sheet(dice, most)
            drawn = made_lively_deeds
        else:
            sheet = made_small_sheet(dice, most)
            drawn = made_deeds
        programs = tuple(drawn(dice, sheet, dice.randrange(1, 7)) for _ in range(dice.choice((2, 2, 3))))
        yield book, sheet, made_row(dice, sheet), programs, dice


def drawn_hand(dice, can, before):
    """A hand that can go on: mostly the same one for some steps, so that the others meet it amid its deeds."""
    if before in can and dice.random() < 0.6:
        return before
    return dice.choice(can)


class SafeBooks(unittest.TestCase):
    def check_end(self, book, sheet, standing):
        """Check that each cell is told truly from a standing on in which all hands have ended."""
        self.assertEqual(wrongly_told(book, sheet, standing), ())
        for cell in range(sheet[0] + len(sheet[1])):
            looking = standing[:3] + (((((("look", cell),), ()),)),)
            answer = None
            while not has_ended(looking):
                answer = told(book, sheet, looking, 0)
                looking = step(book, sheet, looking, 0)
            self.assertEqual(answer, true_value(sheet, standing[0], cell), (book, sheet))

    def test_each_cell_is_told_truly_in_the_end(self):
        books = safe_books()
        self.assertEqual(len(books), 896)
        self.assertTrue(all(safe(book) for book in books))
        for book, sheet, row, programs, dice in drawn_weavings(8000, 41, books):
            standing, hand = start(sheet, row, programs), None
            while not has_ended(standing):
                can = hands_that_can(book, standing)
                self.assertTrue(can)
                hand = drawn_hand(dice, can, hand)
                standing = step(book, sheet, standing, hand)
            self.check_end(book, sheet, standing)

    def test_each_safe_book_once_and_more(self):
        for number, book in enumerate(safe_books()):
            for _, sheet, row, programs, dice in drawn_weavings(3, 4200 + number, [book]):
                slow = SlowHands(book, sheet, row, programs + ((),))
                hand = None
                while not all(slow.ended(one) for one in range(len(programs))):
                    can = [one for one in range(len(programs)) if slow.can(one)]
                    self.assertTrue(can)
                    hand = drawn_hand(dice, can, hand)
                    slow.turn(hand)
                standing = slow.standing()
                self.assertEqual(looked_wrong(book, sheet, standing), (), (book, sheet, row, programs))
                for spot, (kept, mark, *_) in enumerate(standing[1]):
                    if kept is not None and mark == 0:
                        self.assertEqual(kept, slow_walk(sheet, standing[0], sheet[0] + spot)[1])

    def test_large_sheets(self):
        dice = random.Random(43)
        for sheet in (COPIES, EIGHT):
            for book in (VALUES, SIGNALS, book_with(VALUES, stop="never", strike="unless", old="kept")):
                programs = tuple(made_lively_deeds(dice, sheet, 8) for _ in range(3))
                standing, hand = start(sheet, (0,), programs), None
                while not has_ended(standing):
                    hand = drawn_hand(dice, hands_that_can(book, standing), hand)
                    standing = step(book, sheet, standing, hand)
                self.check_end(book, sheet, standing)


class OtherBooks(unittest.TestCase):
    def test_no_weaving_is_stuck(self):
        for book, sheet, row, programs, dice in drawn_weavings(300, 44, [None]):
            book = made_book(dice)
            standing, hand, steps = start(sheet, row, programs), None, 0
            while not has_ended(standing):
                can = [one for one in range(len(programs)) if can_step(book, standing, one)]
                self.assertTrue(can)
                hand = drawn_hand(dice, can, hand)
                standing = step(book, sheet, standing, hand)
                steps += 1
                self.assertLess(steps, 5000)

    def test_the_same_drawing_finds_what_other_books_lose(self):
        # So the drawn weavings above would see a book that is not safe.
        for words in ({"write": "last"}, {"enter": "behind"}, {"hands": "any"}, {"strike": "behind"},
                      {"strike": "unless"}, {"perhaps": "answer"}, {"readers": "none"}, {"check": "mark"}):
            lost = 0
            for book, sheet, row, programs, dice in drawn_weavings(1500, 45, [book_with(VALUES, **words)]):
                standing, hand = start(sheet, row, programs), None
                while not has_ended(standing):
                    hand = drawn_hand(dice, hands_that_can(book, standing), hand)
                    standing = step(book, sheet, standing, hand)
                lost += wrongly_told(book, sheet, standing) != ()
            self.assertGreater(lost, 0, words)
