"""B5 and B7: the texts of books."""

import unittest

from keptmarks.booktexts import book_text, read_book
from keptmarks.errors import BadText
from tests.samples import ENTRY_NAMES, ENTRY_WORDS, ODD_VALUES, SIGNALS, VALUES, check_calls, some_books

TEXT = ("readers sure\nfurther perhaps\nstop marked\nperhaps check\nsure work\ncheck mark\nchange sure\nwrite first\n"
        "strike ahead\nenter ahead\nold struck\nhands one")
LINES = TEXT.split("\n")


def right_lines(place):
    """All lines that are right at a place."""
    return [ENTRY_NAMES[place] + " " + word for word in ENTRY_WORDS[place]]


def slow_told(text):
    """The book of which this is the text, or the number of the first wrong line."""
    lines = text.split("\n")
    for place in range(12):
        if lines[place:place + 1] == [] or lines[place] not in right_lines(place):
            return place
    return 12 if len(lines) > 12 else tuple(line.split(" ")[1] for line in lines)


class Texts(unittest.TestCase):
    def wrong(self, value, line):
        with self.assertRaises(BadText) as caught:
            read_book(value)
        self.assertEqual(caught.exception.line, line, repr(value)[:200])
        self.assertIs(type(caught.exception.line), int)

    def check(self, text):
        told = slow_told(text)
        if isinstance(told, int):
            self.wrong(text, told)
        else:
            self.assertEqual(read_book(text), told)


class Examples(Texts):
    def test_texts(self):
        self.assertEqual(book_text(SIGNALS), TEXT)
        self.assertEqual(read_book(book_text(VALUES)), VALUES)

    def test_wrong_ones(self):
        self.wrong("readers sure\nfurther perhaps", 2)
        self.wrong(book_text(VALUES) + "\n", 12)
        self.wrong("readers  sure", 0)
        self.wrong(VALUES, 0)


class ThereAndBack(Texts):
    def test_books(self):
        told = {}
        for book in some_books(13):
            text = book_text(book)
            self.assertEqual(text, "\n".join(name + " " + word for name, word in zip(ENTRY_NAMES, book)))
            self.assertEqual(read_book(text), book)
            self.assertIs(type(read_book(text)), tuple)
            told[text] = book
        self.assertEqual(len(told), len(some_books(13)))


class WrongTexts(Texts):
    def test_no_string(self):
        for value in (*ODD_VALUES, 0, 1, LINES, tuple(LINES), (TEXT,), [TEXT], VALUES, list(VALUES), {TEXT: TEXT}):
            if type(value) is not str:
                self.wrong(value, 0)

    def test_odd_strings(self):
        for value in (*ODD_VALUES, "readers", "readers ", "sure", " sure", " ".join(SIGNALS), "\n".join(SIGNALS),
                      "\n".join(ENTRY_NAMES), TEXT.replace("\n", " "), TEXT.replace("\n", ""), "readers sure" * 1000):
            if type(value) is str:
                self.wrong(value, 0)

    def test_one_sign_left_out_put_in_exchanged_or_doubled(self):
        for at in range(len(TEXT) + 1):
            self.check(TEXT[:at] + TEXT[at + 1:])
            self.check(TEXT[:at] + TEXT[at:at + 1] * 2 + TEXT[at + 1:])
            self.check(TEXT[:at] + TEXT[at + 1:at + 2] + TEXT[at:at + 1] + TEXT[at + 2:])
            for sign in "aeks \n0,=:-":
                self.check(TEXT[:at] + sign + TEXT[at:])
                self.check(TEXT[:at] + sign + TEXT[at + 1:])
            if TEXT[at:at + 1].islower():
                self.wrong(TEXT[:at] + TEXT[at].upper() + TEXT[at + 1:], TEXT[:at].count("\n"))

    def test_lines(self):
        for place, line in enumerate(LINES):
            name, word = line.split(" ")
            for changed in ("", " ", name, name + " ", " " + word, word, word + " " + name, " " + line, line + " ",
                            name + "  " + word, name + "\t" + word, name + ": " + word, name + word, line.upper(),
                            line.title(), line + " " + word, line + line, name + " " + name, name + " two", line + "\r",
                            line * 1000, name + " " * 5000 + word):
                for behind in ([], LINES[place + 1:], ["x"] * 300):
                    self.wrong("\n".join(LINES[:place] + [changed] + behind), place)

    def test_words_of_other_entries(self):
        words = sorted({word for some in ENTRY_WORDS for word in some})
        for place, name in enumerate(ENTRY_NAMES):
            for word in words:
                text = "\n".join(LINES[:place] + [name + " " + word] + LINES[place + 1:])
                if word in ENTRY_WORDS[place]:
                    self.assertEqual(read_book(text), SIGNALS[:place] + (word,) + SIGNALS[place + 1:])
                else:
                    self.wrong(text, place)

    def test_two_wrong_lines(self):
        for first in range(12):
            for second in range(first + 1, 12):
                lines = list(LINES)
                lines[first] = lines[second] = "readers two"
                self.wrong("\n".join(lines), first)

    def test_lines_left_out_twice_exchanged_and_empty(self):
        for place in range(12):
            self.wrong("\n".join(LINES[:place] + LINES[place + 1:]), place)
            self.wrong("\n".join(LINES[:place]), place)
            self.wrong("\n".join(LINES[:place + 1] + LINES[place:]), place + 1)
            self.wrong("\n".join(LINES[:place] + [""] + LINES[place:]), place)
            self.wrong("\n".join(LINES[:place] + [""] + LINES[place + 1:]), place)
            for other in range(place):
                changed = list(LINES)
                changed[place], changed[other] = LINES[other], LINES[place]
                self.wrong("\n".join(changed), other)

    def test_lines_behind_the_twelfth(self):
        for line in ("", " ", "x", "hands one", "hands any", "readers sure", "more one"):
            self.wrong(TEXT + "\n" + line, 12)
            self.wrong(TEXT + ("\n" + line) * 300, 12)
            self.wrong(TEXT[:-3] + "two\n" + line, 11)

    def test_cut_off(self):
        for at in range(len(TEXT)):
            self.check(TEXT[:at])
            self.check(TEXT[at:])


class Calls(unittest.TestCase):
    def test_by_place_and_by_name(self):
        for book in some_books(3001):
            check_calls(self, book_text, book=book)
            check_calls(self, read_book, value=book_text(book))
        for value in (*ODD_VALUES, VALUES, TEXT + "\n", TEXT[:-1]):
            check_calls(self, read_book, value=value)
