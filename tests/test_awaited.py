"""H1, H2 and H3: cells that are wrong, awaited and lost amid runs."""

import random
import unittest

from keptmarks.awaited import awaited_cells, lost_cells, wrong_cells
from keptmarks.knownbooks import known_book
from keptmarks.losingruns import losing
from keptmarks.onehand import safe_alone
from keptmarks.standings import has_ended, start
from keptmarks.steps import after, step
from keptmarks.weavesearch import wrongly_told
from tests.samples import (
    COPIES, COPY, EIGHT, ENTRY_NAMES, NEVER, PAIR, REWORK, SIGNALS, TRACED, VALUES, book_with, check_calls, made_book,
    made_deeds, made_lively_deeds, made_lively_sheet, made_row, made_small_sheet, some_books, with_item,
)
from tests.test_anyhands import drawn_hand
from tests.test_asking import slow_walk
from tests.test_hands import hands_that_can
from tests.test_safety import safe_books

LATE = book_with(TRACED, strike="behind")
MARK_OF = {"none": 0, "perhaps": 1, "sure": 2}
# Of each word of the entry write for how many of its phases done a spreading is still to come.
STILL_TO_COME = {"first": (0, 1), "last": (0,), "between": (0, 1, 2)}
LOOK, SET = (("look", 1),), (("set", 0, 1),)


def slow_wrong_cells(sheet, standing):
    found = []
    for spot, (kept, mark, reads, again, holder) in enumerate(standing[1]):
        true = slow_walk(sheet, standing[0], sheet[0] + spot)[1]
        if (kept, mark, holder) == (kept, 0, None) and kept not in (None, true):
            found.append(sheet[0] + spot)
    return tuple(found)


def spread_alone(book, sheet, standing, waiting, marking):
    """The cells to which a spreading gives marks, gone on with on a copy of who is entered and of the marks."""
    says = dict(zip(ENTRY_NAMES, book))
    marks = {sheet[0] + spot: cell[1] for spot, cell in enumerate(standing[1])}
    waiting, marking, given = list(waiting), list(marking), []
    while waiting or marking:
        if not marking:
            cell, mark = waiting.pop(0)
            marking = [(reader, mark) for reader in standing[2][cell] if mark]
            continue
        cell, mark = marking.pop(0)
        given.append(cell)
        had, marks[cell] = marks[cell], max(marks[cell], mark)
        goes_on = {"marked": had == 0, "unraised": marks[cell] > had, "never": True}[says["stop"]]
        if goes_on and says["further"] != "none":
            waiting.append((cell, MARK_OF[says["further"]]))
    return given


def spreadings_of(book, standing):
    """The spreadings under way and those still to come, each as what is waiting and marking."""
    says = dict(zip(ENTRY_NAMES, book))
    found = []
    for left, tasks in standing[3]:
        for task in tasks:
            if task[0] == "spread":
                found.append(task[1:])
            if task[0] == "write" and task[3] in STILL_TO_COME[says["write"]]:
                found.append((((task[1], MARK_OF[says["readers"]]),), ()))
    return found


def slow_awaited(book, sheet, standing):
    awaited = set()
    for waiting, marking in spreadings_of(book, standing):
        awaited |= set(spread_alone(book, sheet, standing, waiting, marking))
    return tuple(sorted(awaited))


def awaited_by_steps(book, sheet, standing):
    """The same by steps of one hand that has this spreading alone: again tells who was given a mark."""
    awaited = set()
    for waiting, marking in spreadings_of(book, standing):
        cells = tuple(with_item(cell, 3, False) for cell in standing[1])
        going = (standing[0], cells, standing[2], (((), (("spread", waiting, marking),)),))
        while not has_ended(going):
            going = step(book, sheet, going, 0)
        awaited |= {sheet[0] + spot for spot, cell in enumerate(going[1]) if cell[3]}
    return tuple(sorted(awaited))


def standings_of_drawn_run(book, sheet, row, programs, dice):
    """All standings of a run in which mostly one hand goes on for some steps."""
    standing, hand = start(sheet, row, programs), None
    yield standing
    while not has_ended(standing):
        hand = drawn_hand(dice, hands_that_can(book, standing), hand)
        standing = step(book, sheet, standing, hand)
        yield standing


def drawn(many, seed, books=None, hands=(1, 2, 3)):
    for number in range(many):
        dice = random.Random(seed * 100000 + number)
        book = dice.choice(books) if books else made_book(dice)
        if number % 3:
            sheet = made_lively_sheet(dice, dice.choice((2, 3, 4)))
            programs = tuple(made_lively_deeds(dice, sheet, dice.randrange(1, 7)) for _ in range(dice.choice(hands)))
        else:
            sheet = made_small_sheet(dice, dice.choice((2, 3, 5)))
            programs = tuple(made_deeds(dice, sheet, dice.randrange(7)) for _ in range(dice.choice(hands)))
        yield book, sheet, made_row(dice, sheet), programs, dice


class Examples(unittest.TestCase):
    def test_ways(self):
        begun = start(PAIR, (0,), ((("look", 2),), SET))
        looked = after(TRACED, PAIR, begun, (0,) * 12)
        ways = [after(TRACED, PAIR, looked, (1,) * many) for many in range(9)]
        self.assertEqual(
            [wrong_cells(PAIR, standing) for standing in ways],
            [(), (), (1, 2), (1, 2), (1, 2), (2,), (2,), (), ()])
        self.assertEqual(
            [awaited_cells(TRACED, PAIR, standing) for standing in ways],
            [(), (1, 2), (1, 2), (1, 2), (1, 2), (2,), (2,), (), ()])
        self.assertEqual([lost_cells(TRACED, PAIR, standing) for standing in ways], [()] * 9)

    def test_late(self):
        over = after(LATE, COPY, start(COPY, (0,), (LOOK, SET)), (0,) * 5 + (1,) * 6 + (0,) * 2)
        self.assertEqual(wrong_cells(COPY, over), (1,))
        self.assertEqual(awaited_cells(LATE, COPY, over), ())
        self.assertEqual(lost_cells(LATE, COPY, over), (1,))


class WrongCells(unittest.TestCase):
    def test_each_thing_that_it_asks_for(self):
        hands = (((), ()),)
        for kept in (None, 0, 1, 2):
            for mark in (0, 1, 2):
                for holder in (None, 0):
                    standing = ((1,), ((kept, mark, ((0, 0),), False, holder),), ((1,), ()), hands)
                    wrong = kept in (0, 2) and mark == 0 and holder is None
                    self.assertEqual(wrong_cells(COPY, standing), (1,) if wrong else ())

    def test_true_for_what_the_inputs_have_now(self):
        standing = after(NEVER, COPIES, start(COPIES, (2,), ((("look", 3), ("set", 0, 1)),)), (0,) * 21)
        told = []
        for value in range(4):
            told.append(wrong_cells(COPIES, ((value,),) + standing[1:]))
        self.assertEqual(told, [(1, 2, 3), (1, 2, 3), (), (1, 2, 3)])

    def test_a_cell_that_is_held_is_not_wrong(self):
        # The hand 0 has kept 0 for the cell 1, and holds it; the hand 1 has stored 1.
        standing = after(VALUES, COPY, start(COPY, (0,), (LOOK, SET)), (0,) * 6 + (1,) * 2)
        self.assertEqual(standing[1][0][4], 0)
        self.assertEqual(wrong_cells(COPY, standing), ())
        self.assertEqual(wrong_cells(COPY, step(VALUES, COPY, standing, 0)), (1,))
        # Where any hands may work at it nobody holds it.
        book = book_with(VALUES, hands="any")
        standing = after(book, COPY, start(COPY, (0,), (LOOK, SET)), (0,) * 6 + (1,) * 2)
        self.assertEqual(wrong_cells(COPY, standing), (1,))

    def test_nothing_kept_and_inputs(self):
        for sheet in (COPY, EIGHT, (3, (0, (2, (1, 0))))):
            self.assertEqual(wrong_cells(sheet, start(sheet, (0,) * sheet[0], ((),))), ())
        standing = after(NEVER, (2, (3,)), start((2, (3,)), (0, 0), ((("look", 2), ("set", 1, 2)),)), (0,) * 8)
        self.assertEqual(wrong_cells((2, (3,)), standing), ())


class AwaitedCells(unittest.TestCase):
    def looked(self, book, sheet, cell, deeds=SET):
        """The standing behind a look of the hand 0 at the cell, and one of the hand 1 at the last one."""
        standing = start(sheet, (0,), ((("look", cell),), deeds))
        while hands_that_can(book, standing) != [1]:
            standing = step(book, sheet, standing, 0)
        return standing

    def awaited_on_the_way(self, book, sheet, standing):
        """What is awaited behind each step of the hand 1."""
        told = []
        while not has_ended(standing):
            told.append(awaited_cells(book, sheet, standing))
            standing = step(book, sheet, standing, 1)
        return told + [awaited_cells(book, sheet, standing)]

    def test_each_word_of_write(self):
        none, both = (), (1,)
        expected = {
            # Begin, store, put the spreading, take the input, mark the cell, take the cell.
            "first": [none, both, both, both, both, none, none],
            # Begin, put, take, mark, take, store: no spreading is still to come ahead of the store alone.
            "last": [none, both, both, both, none, none, none],
            # Begin, put, take, mark, take; store; put, take, mark: the second spreading is to come until it is done.
            "between": [none] + [both] * 8 + [none],
        }
        for write in expected:
            book = book_with(VALUES, write=write)
            standing = self.looked(book, COPY, 1)
            self.assertEqual(self.awaited_on_the_way(book, COPY, standing), expected[write], write)

    def test_a_set_that_has_not_begun_awaits_nothing(self):
        standing = self.looked(VALUES, COPY, 1, SET + (("set", 0, 2),))
        self.assertEqual(awaited_cells(VALUES, COPY, standing), ())
        # Nor does one to what is there by then.
        standing = self.looked(VALUES, COPY, 1, (("set", 0, 0),))
        self.assertEqual(self.awaited_on_the_way(VALUES, COPY, standing), [(), ()])

    def test_no_mark_for_readers(self):
        for write in STILL_TO_COME:
            book = book_with(VALUES, readers="none", write=write)
            told = self.awaited_on_the_way(book, COPY, self.looked(book, COPY, 1))
            self.assertEqual(set(told), {()})

    def test_no_mark_further(self):
        book = book_with(VALUES, further="none")
        told = self.awaited_on_the_way(book, PAIR, self.looked(book, PAIR, 2))
        self.assertEqual(told, [(), (1,), (1,), (1,), (1,), ()])

    def marked_in_between(self, book, mark):
        """A standing in which a set has begun, the cell 1 has the mark, and the cells 2 and 3 are clean."""
        standing = after(book, COPIES, self.looked(book, COPIES, 3), (1,))
        cells = with_item(standing[1], 0, with_item(standing[1][0], 1, mark))
        return (standing[0], cells) + standing[2:]

    def test_spreadings_that_stop_at_marks(self):
        all_three = (1, 2, 3)
        for readers, further in (("perhaps", "perhaps"), ("perhaps", "sure"), ("sure", "perhaps"), ("sure", "sure")):
            for stop in ("marked", "unraised", "never"):
                book = book_with(VALUES, readers=readers, further=further, stop=stop)
                for mark in (0, 1, 2):
                    goes_on = stop == "never" or mark == 0 or (stop == "unraised" and MARK_OF[readers] > mark)
                    standing = self.marked_in_between(book, mark)
                    # The cell at which it stops is come to, though it has a mark as strong.
                    self.assertEqual(awaited_cells(book, COPIES, standing), all_three if goes_on else (1,))

    def test_a_cell_come_to_by_two_ways(self):
        # The cell 3 reads the cell 1 and the cell 2; the cell 1 is come to once by each of two writes.
        sheet = (2, ((0, (0, 1)), (1, (0, 1)), (2, ((3, (0, 1)), 1))))
        programs = ((("look", 4),), (("set", 0, 1),), (("set", 1, 1),))
        for stop in ("marked", "unraised", "never"):
            book = book_with(VALUES, stop=stop)
            standing = start(sheet, (0, 0), programs)
            while hands_that_can(book, standing) != [1, 2]:
                standing = step(book, sheet, standing, 0)
            for order, told in (((1,), (2, 4)), ((2,), (3, 4)), ((1, 2), (2, 3, 4)), ((2, 1, 2, 1), (2, 3, 4))):
                self.assertEqual(awaited_cells(book, sheet, after(book, sheet, standing, order)), told)
            # Each by itself: that the one write would mark the cell 4 first doesn't stop the other one.
            both = after(book, sheet, standing, (1, 2))
            self.assertEqual(both[1][2][1], 0)
            # The first one has come to the cell 4; of the second one the cell 3 and this one are left.
            while standing[3][1] != ((), ()):
                standing = step(book, sheet, standing, 1)
            self.assertEqual(awaited_cells(book, sheet, after(book, sheet, standing, (2, 2))), (3, 4))

    def test_spreadings_of_change(self):
        # The cell 1 is worked out to another value for a look, and is about to make the cell 2 sure.
        book = book_with(TRACED, readers="perhaps")
        deeds = (("look", 3), ("set", 0, 1), ("look", 1))
        standing = start(COPIES, (0,), (deeds,))
        told = []
        while not has_ended(standing):
            tasks = standing[3][0][1]
            if tasks and tasks[-1][0] == "spread" and len(tasks) > 1:
                told.append((tasks[-1][1:], awaited_cells(book, COPIES, standing)))
            standing = step(book, COPIES, standing, 0)
        # The cells 2 and 3 have the mark perhaps ahead of that: where it meets one spreading stops.
        self.assertEqual(told, [((((1, 2),), ()), (2,)), (((), ((2, 2),)), (2,))])
        book = book_with(book, stop="never")
        standing = start(COPIES, (0,), (deeds,))
        while not (standing[3][0][1] and standing[3][0][1][-1][:1] == ("spread",) and len(standing[3][0][1]) > 1):
            standing = step(book, COPIES, standing, 0)
        self.assertEqual(awaited_cells(book, COPIES, standing), (2, 3))

    def test_cells_that_are_held_and_cells_that_are_marked(self):
        # The hand 0 works at the cell 1, and is entered at the input: it will be marked, and is awaited.
        standing = after(VALUES, COPY, start(COPY, (0,), (LOOK, SET)), (0,) * 5 + (1,) * 2)
        self.assertEqual(awaited_cells(VALUES, COPY, standing), (1,))
        self.assertEqual(lost_cells(VALUES, COPY, standing), ())
        standing = after(VALUES, COPY, start(COPY, (0,), (LOOK, SET)), (0,) * 2 + (1,) * 2)
        self.assertEqual(awaited_cells(VALUES, COPY, standing), ())

    def test_beside_slow_reckonings(self):
        seen = {}
        for book, sheet, row, programs, dice in drawn(700, 51):
            for standing in standings_of_drawn_run(book, sheet, row, programs, dice):
                wrong = wrong_cells(sheet, standing)
                awaited = awaited_cells(book, sheet, standing)
                lost = lost_cells(book, sheet, standing)
                self.assertEqual([type(some) for some in (wrong, awaited, lost)], [tuple] * 3)
                self.assertEqual(wrong, slow_wrong_cells(sheet, standing))
                self.assertEqual(awaited, slow_awaited(book, sheet, standing))
                self.assertEqual(awaited, awaited_by_steps(book, sheet, standing))
                self.assertEqual(lost, tuple(cell for cell in wrong if cell not in awaited))
                key = len(programs), bool(wrong), bool(awaited), bool(lost)
                seen[key] = seen.get(key, 0) + 1
        for hands in (1, 2, 3):
            for wrong, awaited, lost in ((0, 0, 0), (1, 0, 1), (1, 1, 0), (1, 1, 1), (0, 1, 0)):
                self.assertGreater(seen.get((hands, wrong, awaited, lost), 0), 3, (hands, wrong, awaited, lost))

    def test_each_word_of_write_in_drawn_runs(self):
        for write in STILL_TO_COME:
            for book, sheet, row, programs, dice in drawn(100, 52, hands=(2, 3)):
                book = book_with(book, write=write, readers=dice.choice(("perhaps", "sure")))
                for standing in standings_of_drawn_run(book, sheet, row, programs, dice):
                    self.assertEqual(awaited_cells(book, sheet, standing), slow_awaited(book, sheet, standing))


class WhatHolds(unittest.TestCase):
    def test_safe_books_lose_nothing(self):
        books = safe_books()
        wrong = 0
        for book, sheet, row, programs, dice in drawn(4000, 53, books):
            for standing in standings_of_drawn_run(book, sheet, row, programs, dice):
                self.assertEqual(lost_cells(book, sheet, standing), (), (book, sheet))
                wrong += wrong_cells(sheet, standing) != ()
            self.assertEqual(wrong_cells(sheet, standing), ())
        self.assertGreater(wrong, 1000)

    def test_each_safe_book(self):
        for number, book in enumerate(safe_books()):
            for _, sheet, row, programs, dice in drawn(1, 5400 + number, hands=(2, 3)):
                for standing in standings_of_drawn_run(book, sheet, row, programs, dice):
                    self.assertEqual(lost_cells(book, sheet, standing), (), (book, sheet))
                self.assertEqual(wrong_cells(sheet, standing), ())

    def test_where_no_hand_has_tasks(self):
        met = 0
        for book, sheet, row, programs, dice in drawn(500, 55):
            for standing in standings_of_drawn_run(book, sheet, row, programs, dice):
                if all(tasks == () for left, tasks in standing[3]):
                    self.assertEqual(awaited_cells(book, sheet, standing), ())
                    self.assertEqual(lost_cells(book, sheet, standing), wrong_cells(sheet, standing))
                    met += lost_cells(book, sheet, standing) != ()
        self.assertGreater(met, 50)

    def test_one_hand_between_its_deeds(self):
        books = [book for book in some_books(1)[:-1] if safe_alone(book)]
        for book, sheet, row, programs, dice in drawn(2500, 56, books, (1,)):
            for standing in standings_of_drawn_run(book, sheet, row, programs, dice):
                if standing[3][0][1] == ():
                    self.assertEqual(wrong_cells(sheet, standing), (), (book, sheet))

    def test_behind_losing_runs(self):
        lost = 0
        for book in some_books(37):
            run = losing(book)
            if run is None:
                continue
            sheet, row, programs, order = run
            last = after(book, sheet, start(sheet, row, programs), order)
            wrong = wrongly_told(book, sheet, last)
            cells = lost_cells(book, sheet, last)
            self.assertEqual(cells, wrong_cells(sheet, last))
            self.assertLessEqual(set(cells), set(wrong))
            if cells:
                lost += 1
            else:
                self.assertTrue(any(last[1][cell - sheet[0]][1] > 0 for cell in wrong), book)
        self.assertGreater(lost, 300)

    def test_known_books(self):
        for name in ("early", "shared", "late", "unentered", "direct"):
            book = known_book(name)
            sheet, row, programs, order = losing(book)
            last = after(book, sheet, start(sheet, row, programs), order)
            self.assertNotEqual(lost_cells(book, sheet, last), (), name)
        # stale marks the cell, and answers with it all the same.
        book = known_book("stale")
        sheet, row, programs, order = losing(book)
        last = after(book, sheet, start(sheet, row, programs), order)
        self.assertEqual(lost_cells(book, sheet, last), ())
        self.assertNotEqual(wrongly_told(book, sheet, last), ())

    def test_what_is_lost_is_told_wrongly(self):
        for book, sheet, row, programs, dice in drawn(300, 57):
            for standing in standings_of_drawn_run(book, sheet, row, programs, dice):
                pass
            self.assertLessEqual(set(lost_cells(book, sheet, standing)), set(wrongly_told(book, sheet, standing)))


class Calls(unittest.TestCase):
    def test_by_place_and_by_name(self):
        for book in (VALUES, SIGNALS, REWORK, NEVER, LATE):
            standing = start(PAIR, (0,), ((("look", 2),), SET))
            for number in range(20):
                check_calls(self, wrong_cells, sheet=PAIR, standing=standing)
                check_calls(self, awaited_cells, book=book, sheet=PAIR, standing=standing)
                check_calls(self, lost_cells, book=book, sheet=PAIR, standing=standing)
                can = hands_that_can(book, standing)
                if can:
                    standing = step(book, PAIR, standing, can[number // 12 % len(can)])
