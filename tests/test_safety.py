"""G2, G3 and G6 as far as it counts books: which books are safe for any hands, and the nearest one that is."""

import functools
import itertools
import random
import unittest

from keptmarks.knownbooks import known_book, known_names
from keptmarks.onehand import safe_alone, slip_alone
from keptmarks.safety import mended, safe, slip
from tests.samples import (
    ENTRY_NAMES, ENTRY_WORDS, NEVER, REWORK, SIGNALS, TRACED, VALUES, book_with, check_calls, made_book, some_books,
    with_item,
)

WRONG = tuple("none none marked answer answer mark none last behind behind kept any".split())
NOTED = book_with(TRACED, sure="check", check="mark", strike="unless", stop="never")


def all_books():
    return list(itertools.product(*ENTRY_WORDS))


def slow_slips(book):
    """All numbers whose words hold, by the words of G2 put as tables of words."""
    says = dict(zip(ENTRY_NAMES, book))
    given = [says["readers"], says["further"], "sure" if says["change"] == "sure" else "none"]
    stands = {"perhaps": "perhaps" in given[:2], "sure": "sure" in given}
    by_mark = {mark for mark in stands if stands[mark] and says[mark] == "check" and says["check"] == "mark"}
    found = {
        1: "none" in given[:2],
        2: any(stands[mark] and says[mark] == "answer" for mark in stands),
        3: "perhaps" in by_mark and (says["readers"], says["change"]) != ("sure", "sure"),
        4: "sure" in by_mark and says["strike"] == "ahead",
        6: says["write"] == "last",
        7: says["enter"] == "behind",
        8: says["hands"] == "any",
        9: (says["strike"], says["stop"]) not in (
            ("ahead", "marked"), ("ahead", "unraised"), ("ahead", "never"), ("unless", "never")),
    }
    return [number for number in found if found[number]]


@functools.cache
def all_safe_books():
    return tuple(book for book in all_books() if not slow_slips(book))


def safe_books():
    """The list of all books of which none of the numbers holds."""
    return list(all_safe_books())


class Examples(unittest.TestCase):
    def test_plain(self):
        self.assertIs(safe(VALUES), True)
        self.assertEqual([slip(book_with(VALUES, write=write)) for write in ("last", "between")], [6, None])
        self.assertEqual([slip(book_with(VALUES, strike=strike)) for strike in ("behind", "unless")], [9, 9])
        self.assertIsNone(slip(book_with(VALUES, stop="never", strike="unless")))
        self.assertEqual(slip(book_with(VALUES, enter="behind", old="kept", hands="any")), 7)
        self.assertEqual(slip(book_with(VALUES, hands="any")), 8)
        self.assertEqual(slip(book_with(VALUES, readers="none", hands="any")), 1)

    def test_three(self):
        self.assertIsNone(slip(SIGNALS))
        self.assertEqual(slip(book_with(SIGNALS, readers="perhaps")), 3)
        self.assertEqual(slip(book_with(SIGNALS, sure="check")), 4)
        self.assertEqual(slip(book_with(SIGNALS, perhaps="answer")), 2)

    def test_mended(self):
        self.assertEqual(mended(VALUES), VALUES)
        self.assertIn(mended(book_with(VALUES, write="last")), (VALUES, book_with(VALUES, write="between")))
        self.assertIs(safe(mended(WRONG)), True)
        self.assertEqual(sum(one != other for one, other in zip(WRONG, mended(WRONG))), 7)


class Slip(unittest.TestCase):
    def told(self, number, book, **words):
        changed = book_with(book, **words)
        self.assertEqual(slip(changed), number, words)
        self.assertIs(safe(changed), number is None)

    def test_1(self):
        for book in (VALUES, SIGNALS, REWORK, TRACED, NOTED):
            self.told(None, book)
            self.told(1, book, readers="none")
            self.told(1, book, further="none")
            self.told(1, book, readers="none", further="none", change="none")
        self.told(1, NEVER)

    def test_2(self):
        self.told(2, VALUES, perhaps="answer")
        self.told(2, VALUES, readers="sure", perhaps="answer")
        self.told(2, VALUES, further="sure", perhaps="answer")
        self.told(2, REWORK, sure="answer")
        self.told(2, VALUES, readers="sure", sure="answer")
        self.told(2, VALUES, further="sure", sure="answer")
        self.told(2, VALUES, change="sure", sure="answer")
        # Marks that cannot stand.
        self.told(None, VALUES, sure="answer")
        self.told(None, REWORK, perhaps="answer")

    def test_3(self):
        self.told(3, VALUES, check="mark")
        self.told(3, SIGNALS, readers="perhaps")
        self.told(3, SIGNALS, change="none")
        self.told(3, SIGNALS, readers="perhaps", further="sure")
        self.told(3, SIGNALS, readers="perhaps", change="none")
        self.told(None, SIGNALS, readers="perhaps", perhaps="work")
        self.told(None, SIGNALS, readers="perhaps", check="values")
        self.told(None, SIGNALS, further="sure", change="none")
        self.told(None, SIGNALS, further="sure", readers="sure")

    def test_4(self):
        self.told(4, SIGNALS, sure="check")
        self.told(4, SIGNALS, sure="check", further="sure", perhaps="work")
        self.told(4, SIGNALS, sure="check", readers="perhaps", further="sure", perhaps="work", change="none")
        self.told(4, VALUES, perhaps="work", sure="check", check="mark", change="sure")
        self.told(9, SIGNALS, sure="check", strike="behind")
        self.told(9, SIGNALS, sure="check", strike="unless")
        self.told(None, SIGNALS, sure="check", strike="unless", stop="never")
        self.told(None, SIGNALS, sure="check", check="values")
        self.told(None, VALUES, perhaps="work", sure="check", check="mark")

    def test_6(self):
        for book in (VALUES, SIGNALS, REWORK, TRACED, NOTED):
            self.told(6, book, write="last")
            self.told(None, book, write="between")
            self.told(None, book, write="first")

    def test_7(self):
        for book in (VALUES, SIGNALS, REWORK, TRACED, NOTED):
            self.told(7, book, enter="behind")
            self.told(7, book, enter="behind", old="kept")
            self.told(None, book, old="kept")

    def test_8(self):
        for book in (VALUES, SIGNALS, REWORK, TRACED, NOTED):
            self.told(8, book, hands="any")

    def test_9(self):
        for book in (VALUES, SIGNALS, REWORK, TRACED):
            for stop in ENTRY_WORDS[2]:
                self.told(None, book, stop=stop, strike="ahead")
                self.told(9, book, stop=stop, strike="behind")
                self.told(None if stop == "never" else 9, book, stop=stop, strike="unless")

    def test_the_first_of_two(self):
        # For each number a change that makes its words hold, and those of no other number.
        makes = {1: {"readers": "none"}, 2: {"sure": "answer"}, 6: {"write": "last"}, 7: {"enter": "behind"},
                 8: {"hands": "any"}, 9: {"strike": "behind"}}
        for one, other in itertools.combinations(makes, 2):
            for book in (REWORK, TRACED):
                self.told(one, book, **makes[one])
                self.told(one, book, **makes[one], **makes[other])
        for number in (6, 7, 8):
            self.told(3, SIGNALS, readers="perhaps", **makes[number])
            self.told(4, SIGNALS, sure="check", **makes[number])
        self.told(3, SIGNALS, readers="perhaps", strike="behind")
        self.told(3, SIGNALS, readers="perhaps", sure="check")
        self.told(1, SIGNALS, further="none", sure="check")
        self.told(2, SIGNALS, readers="perhaps", sure="answer")
        self.told(2, SIGNALS, perhaps="answer", sure="check")

    def test_5_is_no_number_here(self):
        for book in all_books():
            self.assertNotEqual(slip(book), 5)
        for words in ({"strike": "unless"}, {"strike": "behind", "old": "kept"}):
            self.assertEqual([slip_alone(book_with(TRACED, **words)), slip(book_with(TRACED, **words))], [5, 9])
        book = book_with(TRACED, enter="behind")
        self.assertEqual([slip_alone(book), slip(book)], [5, 7])

    def test_all_books(self):
        numbers = {}
        for book in all_books():
            holds = slow_slips(book)
            expected = holds[0] if holds else None
            self.assertEqual(slip(book), expected, book)
            self.assertIs(safe(book), expected is None)
            numbers[expected] = numbers.get(expected, 0) + 1
        self.assertEqual(set(numbers), {None, 1, 2, 3, 4, 6, 7, 8, 9})
        self.assertEqual(numbers[None], 896)
        self.assertEqual(sum(numbers.values()), 69984)

    def test_entries_that_play_no_part(self):
        for book in some_books(11):
            number = slip(book)
            for word in ENTRY_WORDS[10]:
                self.assertEqual(slip(book_with(book, old=word)), number)
            marks = {"perhaps": "perhaps" in book[:2], "sure": "sure" in (book[0], book[1], book[6])}
            for place, mark in ((3, "perhaps"), (4, "sure")):
                if not marks[mark]:
                    for word in ENTRY_WORDS[place]:
                        self.assertEqual(slip(with_item(book, place, word)), number)
            if not any(marks[mark] and book[place] == "check" for place, mark in ((3, "perhaps"), (4, "sure"))):
                for word in ENTRY_WORDS[5]:
                    self.assertEqual(slip(book_with(book, check=word)), number)

    def test_beside_one_hand(self):
        safe_for_one = 0
        for book in all_books():
            alone, number = slip_alone(book), slip(book)
            safe_for_one += alone is None
            if alone in (1, 2, 3, 4):
                self.assertEqual(number, alone)
            if number in (1, 2, 3, 4):
                self.assertEqual(alone, number)
            if number in (6, 7, 8, 9):
                self.assertIn(alone, (None, 5))
            if number is None:
                self.assertIsNone(alone)
                self.assertIs(safe_alone(book), True)
        self.assertEqual(safe_for_one, 10272)

    def test_known_books(self):
        alone = {"direct": 1, "stale": 2, "untold": 3, "blind": 4}
        woven = {"early": 6, "shared": 8, "late": 9, "unentered": 7}
        for name in known_names():
            self.assertEqual(slip_alone(known_book(name)), alone.get(name), name)
            self.assertEqual(slip(known_book(name)), alone.get(name, woven.get(name)), name)
            self.assertIs(safe(known_book(name)), name in ("signals", "values", "rework", "remark"))


class Mended(unittest.TestCase):
    def test_beside_all_safe_books(self):
        books = safe_books()
        dice = random.Random(1)
        drawn = [made_book(dice) for _ in range(700)] + some_books(311) + [WRONG, NEVER, NOTED]
        drawn += [known_book(name) for name in known_names()]
        found = {}
        for book in drawn:
            other = mended(book)
            self.assertIn(other, books)
            differs = sum(one != two for one, two in zip(book, other))
            least = min(sum(one != two for one, two in zip(book, near)) for near in books)
            self.assertEqual(differs, least, book)
            found[least] = found.get(least, 0) + 1
        self.assertEqual(max(found), 7)

    def test_all_books_by_rings_of_neighbours(self):
        away = {book: 0 for book in safe_books()}
        ring = list(away)
        for book in ring:
            for place, words in enumerate(ENTRY_WORDS):
                for word in words:
                    other = with_item(book, place, word)
                    if other not in away:
                        away[other] = away[book] + 1
                        ring.append(other)
        self.assertEqual(len(away), 69984)
        self.assertEqual(max(away.values()), 7)
        for book in away:
            other = mended(book)
            self.assertEqual(away[other], 0, book)
            self.assertEqual(sum(one != two for one, two in zip(book, other)), away[book], book)

    def test_safe_books_stay(self):
        for book in safe_books():
            self.assertEqual(mended(book), book)
            self.assertIs(type(mended(book)), tuple)

    def test_no_safe_book_differs_by_fewer_where_one_entry_is_turned(self):
        books = safe_books()
        for book in books[::9]:
            for place, words in enumerate(ENTRY_WORDS):
                for word in words:
                    other = with_item(book, place, word)
                    near = mended(other)
                    self.assertIn(near, books)
                    self.assertEqual(
                        sum(one != two for one, two in zip(near, other)), 0 if other in books else 1)


class Calls(unittest.TestCase):
    def test_by_place_and_by_name(self):
        for book in some_books(1009) + [VALUES, SIGNALS, REWORK, WRONG]:
            for function in (slip, safe, mended):
                check_calls(self, function, book=book)
