"""B6: the books that have names."""

import unittest

from keptmarks.books import book_error, book_number
from keptmarks.errors import Unfit
from keptmarks.knownbooks import known_book, known_names
from keptmarks.onehand import slip_alone
from keptmarks.safety import slip
from tests.samples import ENTRY_NAMES, ODD_VALUES, SIGNALS, VALUES, check_calls

NAMES = (
    "signals", "values", "rework", "remark", "early", "shared", "late", "unentered", "direct", "stale", "untold",
    "blind")

# Of each name its book entry by entry, and its number.
BOOKS = {
    "signals": ("sure perhaps marked check work mark sure first ahead ahead struck one", 56088),
    "values": ("perhaps perhaps marked check work values none first ahead ahead struck one", 32544),
    "rework": ("sure sure marked answer work values none first ahead ahead struck one", 62784),
    "remark": ("perhaps perhaps never check work values none between unless ahead kept one", 37794),
    "early": ("perhaps perhaps marked check work values none last ahead ahead struck one", 32568),
    "shared": ("perhaps perhaps marked check work values none first ahead ahead struck any", 32545),
    "late": ("perhaps perhaps marked check work values none first behind ahead struck one", 32552),
    "unentered": ("perhaps perhaps marked check work values none first ahead behind struck one", 32548),
    "direct": ("perhaps none marked check work values none first ahead ahead struck one", 24768),
    "stale": ("perhaps perhaps marked answer work values none first ahead ahead struck one", 31680),
    "untold": ("perhaps perhaps marked check work mark sure first ahead ahead struck one", 32760),
    "blind": ("sure perhaps marked check check mark sure first ahead ahead struck one", 55800),
}


# Of each name what slip_alone and slip tell.
SLIPS = {
    "signals": (None, None), "values": (None, None), "rework": (None, None), "remark": (None, None),
    "early": (None, 6), "shared": (None, 8), "late": (None, 9), "unentered": (None, 7),
    "direct": (1, 1), "stale": (2, 2), "untold": (3, 3), "blind": (4, 4),
}


class KnownBooks(unittest.TestCase):
    def unfit(self, value):
        with self.assertRaises(Unfit):
            known_book(value)

    def test_example(self):
        self.assertEqual(known_names()[:5], ("signals", "values", "rework", "remark", "early"))
        self.assertEqual(len(known_names()), 12)
        self.assertEqual(known_book("signals"), SIGNALS)
        self.assertEqual([book_number(known_book(name)) for name in known_names()], [
            56088, 32544, 62784, 37794, 32568, 32545, 32552, 32548, 24768, 31680, 32760, 55800])
        self.unfit("Signals")

    def test_names(self):
        self.assertEqual(known_names(), NAMES)
        self.assertEqual(tuple(BOOKS), NAMES)
        self.assertIs(type(known_names()), tuple)

    def test_books_entry_by_entry(self):
        self.assertEqual(known_book("values"), VALUES)
        for name in NAMES:
            words, number = BOOKS[name]
            book = known_book(name)
            self.assertIs(type(book), tuple)
            self.assertIsNone(book_error(book))
            for entry, word, told in zip(ENTRY_NAMES, words.split(), book):
                self.assertEqual(told, word, (name, entry))
            self.assertEqual(book_number(book), number)

    def test_what_becomes_of_them(self):
        told = {name: (slip_alone(known_book(name)), slip(known_book(name))) for name in known_names()}
        self.assertEqual(told, SLIPS)

    def test_no_names(self):
        for name in NAMES:
            for value in (name.upper(), name.title(), name + " ", " " + name, name + "\n", name[:-1], name[1:],
                          name * 2, (name,), [name], {name: name}, known_book(name), list(known_book(name))):
                self.unfit(value)

    def test_values_of_all_kinds(self):
        for value in (*ODD_VALUES, 0, 1, 32544, NAMES, list(NAMES), " ".join(NAMES), *ENTRY_NAMES, "sure", "one"):
            self.unfit(value)


class Calls(unittest.TestCase):
    def test_by_place_and_by_name(self):
        check_calls(self, known_names)
        for value in (*NAMES, *ODD_VALUES, "Signals", NAMES):
            check_calls(self, known_book, value=value)
