"""B2, B3, B4 and B7: books, their entries, numbers and neighbours."""

import itertools
import unittest

from keptmarks.books import altered, book_at, book_error, book_number, can_stand, neighbours
from keptmarks.errors import Unfit
from tests.samples import (
    ENTRY_NAMES, ENTRY_WORDS, ODD_VALUES, REWORK, SIGNALS, VALUES, check_calls, some_books, with_item,
)

# All words of all entries, and some that are none.
WORDS = sorted({word for words in ENTRY_WORDS for word in words} | set(ENTRY_NAMES))
NO_WORDS = (
    "", "None", "Sure", "SURE", "sure ", " sure", "sure\n", "mark ", "marks", "two", "ahea", "sure perhaps", "0")


class BookError(unittest.TestCase):
    def test_example(self):
        values = (VALUES, VALUES[:11], list(VALUES), None, ("mark",) + VALUES[1:],
                  VALUES[:6] + ("perhaps",) + VALUES[7:], VALUES[:9] + ("unless", "old", "two"))
        self.assertEqual(
            [book_error(value) for value in values], [None, "form", "form", "form", "readers", "change", "enter"])

    def test_books(self):
        for book in some_books(7):
            self.assertIsNone(book_error(book))

    def test_each_entry_with_each_word(self):
        for book in (VALUES, SIGNALS, REWORK):
            for place, name in enumerate(ENTRY_NAMES):
                for word in (*WORDS, *NO_WORDS):
                    told = None if word in ENTRY_WORDS[place] else name
                    self.assertEqual(book_error(with_item(book, place, word)), told)

    def test_each_entry_with_values_of_all_kinds(self):
        for place, name in enumerate(ENTRY_NAMES):
            for value in (*ODD_VALUES, 0, 1, 2, ENTRY_WORDS[place], list(ENTRY_WORDS[place]), ENTRY_WORDS[place][:1]):
                self.assertEqual(book_error(with_item(VALUES, place, value)), name)

    def test_two_wrong_entries(self):
        for first, second in itertools.combinations(range(12), 2):
            for one, other in (("two", None), (None, "two"), (0, []), ("", "")):
                book = with_item(with_item(SIGNALS, first, one), second, other)
                self.assertEqual(book_error(book), ENTRY_NAMES[first])

    def test_how_many_items(self):
        for many in (*range(12), 13, 14, 24, 3000):
            self.assertEqual(book_error((VALUES * 250)[:many]), "form")
            self.assertEqual(book_error((None,) * many), "form")
        self.assertEqual(book_error(VALUES[:11]), "form")
        self.assertEqual(book_error(VALUES + ("one",)), "form")
        self.assertEqual(book_error((None,) * 12), "readers")

    def test_values_of_all_kinds(self):
        twelve = {word: True for word in WORDS[:12]}
        for value in (*ODD_VALUES, list(VALUES), [None] * 12, dict(zip(ENTRY_NAMES, VALUES)), twelve, "abcdefghijkl",
                      " ".join(VALUES), (VALUES,), [VALUES], 0, 32544):
            self.assertEqual(book_error(value), "form")


class Altered(unittest.TestCase):
    def unfit(self, name, word):
        for book in (VALUES, SIGNALS):
            with self.assertRaises(Unfit):
                altered(book, name, word)

    def test_example(self):
        self.assertEqual(altered(VALUES, "hands", "any")[11], "any")
        self.assertEqual(altered(VALUES, "readers", "sure")[:3], ("sure", "perhaps", "marked"))
        self.assertEqual(altered(VALUES, "old", "struck"), VALUES)
        self.unfit("change", "perhaps")
        self.unfit(0, "sure")

    def test_each_entry_with_each_word(self):
        for book in some_books(991):
            for place, name in enumerate(ENTRY_NAMES):
                for word in WORDS:
                    if word in ENTRY_WORDS[place]:
                        self.assertEqual(altered(book, name, word), with_item(book, place, word))
                    else:
                        self.unfit(name, word)

    def test_names_that_are_none(self):
        names = (
            "", "reader", "readers ", " readers", "Readers", "READERS", "readers\n", "none", "any", "marked",
            "stopmarked")
        for name in (*ODD_VALUES, *names, 0, 1, 11, ("readers",), ["readers"], ENTRY_NAMES):
            for word in ("none", "sure", "answer", "any", None, 0):
                self.unfit(name, word)

    def test_words_that_are_none(self):
        for place, name in enumerate(ENTRY_NAMES):
            for word in (*ODD_VALUES, *NO_WORDS, 0, 1, 2, ENTRY_WORDS[place], list(ENTRY_WORDS[place])):
                self.unfit(name, word)


class CanStand(unittest.TestCase):
    def test_example(self):
        books = (VALUES, SIGNALS, REWORK, ("none", "none") + VALUES[2:], altered(VALUES, "change", "sure"))
        self.assertEqual([can_stand(book) for book in books], [(1,), (1, 2), (2,), (), (1, 2)])

    def test_each_combination(self):
        marks_of_two = ("none", "perhaps", "sure")
        for readers, further, change in itertools.product(marks_of_two, marks_of_two, ("none", "sure")):
            marks = ()
            if readers == "perhaps" or further == "perhaps":
                marks += (1,)
            if readers == "sure" or further == "sure" or change == "sure":
                marks += (2,)
            # It hangs on these three alone, so all else of the book may be as it likes.
            for book in some_books(499):
                book = (readers, further) + book[2:6] + (change,) + book[7:]
                self.assertEqual(can_stand(book), marks)
                self.assertTrue(all(type(mark) is int for mark in can_stand(book)))


class Numbers(unittest.TestCase):
    def unfit(self, number):
        with self.assertRaises(Unfit):
            book_at(number)

    def test_example(self):
        self.assertEqual([book_number(VALUES), book_number(SIGNALS)], [32544, 56088])
        self.assertEqual(book_at(0)[:4], ("none", "none", "marked", "answer"))
        self.assertEqual(book_at(69983)[8:], ("unless", "behind", "kept", "any"))
        self.assertEqual(book_at(40000), (
            "perhaps", "sure", "marked", "check", "answer", "mark", "sure", "last", "unless", "ahead", "struck", "one"))
        self.unfit(True)

    def test_all_numbers(self):
        books = list(itertools.product(*ENTRY_WORDS))
        self.assertEqual(len(books), 69984)
        for number, book in enumerate(books):
            self.assertEqual(book_at(number), book)
            self.assertEqual(book_number(book), number)

    def test_first_and_last(self):
        self.assertEqual(book_at(0), tuple(words[0] for words in ENTRY_WORDS))
        self.assertEqual(book_at(69983), tuple(words[-1] for words in ENTRY_WORDS))
        self.assertEqual([book_number(book_at(number)) for number in (0, 1, 69982, 69983)], [0, 1, 69982, 69983])
        self.assertIs(type(book_number(VALUES)), int)
        self.assertIs(type(book_at(1)), tuple)

    def test_numbers_beyond(self):
        for number in (-1, -2, -69984, -69983, 69984, 69985, 10 ** 6, 10 ** 399, -10 ** 399):
            self.unfit(number)

    def test_values_of_all_kinds(self):
        for value in (*ODD_VALUES, VALUES, (0,), [0], {0: 0}, "0", "32544", "signals"):
            self.unfit(value)


class Neighbours(unittest.TestCase):
    def test_example(self):
        self.assertEqual(len(neighbours(VALUES)), 19)
        numbers = [book_number(other) for other in neighbours(VALUES)]
        self.assertEqual(numbers[:7], [9216, 24768, 31680, 31968, 32256, 32545, 32546])

    def test_what_they_are(self):
        for book in some_books(211):
            others = neighbours(book)
            self.assertIs(type(others), tuple)
            self.assertEqual(len(others), 19)
            numbers = [book_number(other) for other in others]
            self.assertEqual(numbers, sorted(set(numbers)))
            for other in others:
                self.assertIsNone(book_error(other))
                self.assertEqual(sum(one != two for one, two in zip(book, other)), 1)
                self.assertIn(book, neighbours(other))

    def test_beside_all_books(self):
        books = list(itertools.product(*ENTRY_WORDS))
        for book in some_books(9001):
            slow = tuple(other for other in books if sum(one != two for one, two in zip(book, other)) == 1)
            self.assertEqual(neighbours(book), slow)


class Calls(unittest.TestCase):
    def test_by_place_and_by_name(self):
        for book in some_books(3001):
            for function in (can_stand, book_number, neighbours):
                check_calls(self, function, book=book)
            for name, word in (("hands", "any"), ("change", "perhaps"), (0, "sure"), ("stop", None), (None, [])):
                check_calls(self, altered, book=book, name=name, word=word)
        for value in (*ODD_VALUES, VALUES, list(VALUES), VALUES[:11], VALUES[:9] + ("unless", "old", [])):
            check_calls(self, book_error, value=value)
            check_calls(self, altered, book=SIGNALS, name=value, word="sure")
            check_calls(self, altered, book=SIGNALS, name="readers", word=value)
        for number in (*ODD_VALUES, 0, 1, 40000, 69983, 69984):
            check_calls(self, book_at, number=number)
