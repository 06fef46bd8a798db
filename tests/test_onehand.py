"""D1, D2 and D5: which books are safe for one hand."""

import itertools
import random
import unittest

from keptmarks.aloneruns import alone
from keptmarks.asking import true_value
from keptmarks.knownbooks import known_book, known_names
from keptmarks.onehand import safe_alone, slip_alone
from tests.samples import (
    ENTRY_NAMES, ENTRY_WORDS, NEVER, REWORK, SIGNALS, TRACED, VALUES, book_with, check_calls, made_deeds, made_row,
    made_small_sheet, some_books, with_item,
)

NOTED = book_with(TRACED, sure="check", check="mark")


def slow_slip(book):
    """The first number, by the words of D2 put as tables of words."""
    says = dict(zip(ENTRY_NAMES, book))
    given = [says["readers"], says["further"]]
    perhaps = "perhaps" in given
    sure = "sure" in given + [says["change"]]
    if "none" in given:
        return 1
    if [perhaps, says["perhaps"]] == [True, "answer"] or [sure, says["sure"]] == [True, "answer"]:
        return 2
    by_mark = says["check"] == "mark"
    if perhaps and by_mark and says["perhaps"] == "check" and (says["readers"], says["change"]) != ("sure", "sure"):
        return 3
    if sure and by_mark and says["sure"] == "check" and says["strike"] == "ahead":
        return 4
    wrong = {("unless", "ahead", "struck"), ("unless", "ahead", "kept"), ("unless", "behind", "struck"),
             ("unless", "behind", "kept"), ("ahead", "behind", "struck"), ("ahead", "behind", "kept"),
             ("behind", "ahead", "kept"), ("behind", "behind", "kept")}
    if says["change"] == "sure" and says["stop"] != "never" and (says["strike"], says["enter"], says["old"]) in wrong:
        return 5
    return None


class Examples(unittest.TestCase):
    def test_traced(self):
        self.assertIsNone(slip_alone(TRACED))
        self.assertIs(safe_alone(TRACED), True)
        self.assertEqual(
            [slip_alone(with_item(TRACED, place, word)) for place, word in (
                (0, "none"), (1, "none"), (3, "answer"), (4, "answer"), (5, "mark"), (6, "none"), (8, "unless"),
                (8, "behind"), (9, "behind"))],
            [1, 1, 2, 2, None, None, 5, None, 5])

    def test_noted(self):
        self.assertEqual(slip_alone(NOTED), 4)
        self.assertEqual(slip_alone(book_with(NOTED, change="none")), 3)
        self.assertIsNone(slip_alone(book_with(NOTED, strike="behind")))
        self.assertIsNone(slip_alone(book_with(NOTED, stop="never", strike="unless")))

    def test_known_books(self):
        told = {"direct": 1, "stale": 2, "untold": 3, "blind": 4}
        for name in known_names():
            self.assertEqual(slip_alone(known_book(name)), told.get(name), name)
            self.assertIs(safe_alone(known_book(name)), name not in told)


class Numbers(unittest.TestCase):
    def told(self, number, book, **words):
        self.assertEqual(slip_alone(book_with(book, **words)), number, words)
        self.assertIs(safe_alone(book_with(book, **words)), number is None)

    def test_1(self):
        for book in (VALUES, SIGNALS, REWORK, TRACED, NOTED):
            self.told(1, book, readers="none")
            self.told(1, book, further="none")
            self.told(1, book, readers="none", further="none", change="none")
        self.told(1, NEVER)

    def test_2(self):
        self.told(2, VALUES, perhaps="answer")
        self.told(2, VALUES, readers="sure", perhaps="answer")
        self.told(2, VALUES, further="sure", perhaps="answer")
        self.told(2, REWORK, sure="answer")
        self.told(2, VALUES, readers="sure", sure="answer")
        self.told(2, VALUES, further="sure", sure="answer")
        self.told(2, VALUES, change="sure", sure="answer")

    def test_2_of_marks_that_cannot_stand(self):
        self.told(None, VALUES, sure="answer")
        self.told(None, REWORK, perhaps="answer")

    def test_3(self):
        self.told(3, VALUES, check="mark")
        self.told(3, SIGNALS, readers="perhaps")
        self.told(3, SIGNALS, change="none")
        self.told(3, SIGNALS, readers="perhaps", further="sure")
        self.told(None, SIGNALS)
        self.told(None, SIGNALS, readers="perhaps", perhaps="work")
        self.told(None, SIGNALS, readers="perhaps", check="values")
        # Where perhaps cannot stand what is done at it plays no part.
        self.told(None, SIGNALS, readers="sure", further="sure", change="none", strike="behind")

    def test_4(self):
        self.told(4, SIGNALS, sure="check")
        self.told(4, SIGNALS, sure="check", further="sure", perhaps="work")
        self.told(4, SIGNALS, sure="check", readers="perhaps", further="sure", perhaps="work", change="none")
        self.told(4, VALUES, perhaps="work", sure="check", check="mark", change="sure")
        self.told(None, SIGNALS, sure="check", strike="behind")
        self.told(None, SIGNALS, sure="check", check="values")
        self.told(None, VALUES, perhaps="work", sure="check", check="mark")

    def test_5(self):
        for stop in ("marked", "unraised"):
            for strike, enter, old in itertools.product(*ENTRY_WORDS[8:11]):
                wrong = strike == "unless" or (strike, enter) == ("ahead", "behind") or (strike, old) == (
                    "behind", "kept")
                self.told(5 if wrong else None, TRACED, stop=stop, strike=strike, enter=enter, old=old)
                self.told(None, TRACED, stop=stop, strike=strike, enter=enter, old=old, change="none")
                self.told(None, TRACED, stop="never", strike=strike, enter=enter, old=old)

    def test_the_first_of_two(self):
        self.told(1, NEVER, change="sure", strike="unless", check="mark")
        self.told(1, VALUES, readers="none", perhaps="answer")
        self.told(1, VALUES, readers="none", check="mark")
        self.told(2, SIGNALS, perhaps="answer", strike="unless")
        self.told(2, SIGNALS, perhaps="answer", readers="perhaps")
        self.told(2, SIGNALS, sure="answer", change="none")
        self.told(3, SIGNALS, sure="check", change="none")
        self.told(3, SIGNALS, readers="perhaps", strike="unless")
        self.told(4, SIGNALS, sure="check", enter="behind")
        self.told(5, SIGNALS, sure="check", strike="behind", old="kept")

    def test_all_books(self):
        numbers = {}
        for book in some_books(1)[:-1]:
            number = slip_alone(book)
            self.assertEqual(number, slow_slip(book), book)
            self.assertIs(safe_alone(book), number is None)
            numbers[number] = numbers.get(number, 0) + 1
        self.assertEqual(sorted(numbers, key=str), [1, 2, 3, 4, 5, None])
        self.assertEqual(numbers[None], 10272)

    def test_write_and_hands_play_no_part(self):
        for book in some_books(37):
            for write, hands in itertools.product(ENTRY_WORDS[7], ENTRY_WORDS[11]):
                self.assertEqual(slip_alone(book_with(book, write=write, hands=hands)), slip_alone(book))


def dense_sheet(dice):
    """A sheet whose formulas all read near cells, so that much hangs on much."""
    inputs = dice.randrange(1, 3)

    def formula(cell, deep):
        if deep == 0 or (deep < 3 and dice.random() < 0.25):
            return dice.randrange(3)
        other = dice.randrange(max(0, cell - 3), cell)
        return (other, tuple(formula(cell, deep - 1) for _ in range(dice.choice((2, 2, 3)))))
    return inputs, tuple(formula(inputs + spot, dice.choice((1, 2, 3))) for spot in range(dice.randrange(2, 6)))


class TrueValues(unittest.TestCase):
    def check_run(self, book, sheet, row, deeds):
        for deed, value in zip(deeds, alone(book, sheet, row, deeds)):
            if deed[0] == "set":
                self.assertIsNone(value)
                row = with_item(row, deed[1], deed[2])
            else:
                self.assertEqual(value, true_value(sheet, row, deed[1]), (book, sheet, deeds))

    def test_safe_books_tell_the_truth(self):
        safe = [book for book in some_books(1) if slip_alone(book) is None]
        dice = random.Random(77)
        for number in range(2500):
            sheet = dense_sheet(dice) if number % 2 else made_small_sheet(dice, dice.choice((3, 6)))
            row = made_row(dice, sheet)
            deeds = made_deeds(dice, sheet, dice.randrange(1, 20))
            for book in dice.sample(safe, 3):
                self.check_run(book, sheet, row, deeds)

    def test_known_safe_books_tell_the_truth(self):
        dice = random.Random(78)
        for name in known_names():
            if safe_alone(known_book(name)):
                for _ in range(60):
                    sheet = dense_sheet(dice)
                    self.check_run(known_book(name), sheet, made_row(dice, sheet), made_deeds(dice, sheet, 40))


class Calls(unittest.TestCase):
    def test_by_place_and_by_name(self):
        for book in some_books(3001) + [TRACED, NOTED]:
            check_calls(self, slip_alone, book=book)
            check_calls(self, safe_alone, book=book)
