"""C4 and C6: one step of a hand, task by task, and what step, told and after make of it."""

import random
import unittest

from keptmarks.errors import TooMany, Unfit
from keptmarks.standings import can_step, has_ended, kept_cells, start
from keptmarks.steps import after, step, told
from tests.samples import (
    COPIES, COPY, EIGHT, ENTRY_WORDS, NEVER, PAIR, SIGNALS, VALUES, book_with, check_calls, made_book, made_deeds,
    made_row, made_small_sheet,
)

FIRST = start(PAIR, (0,), ((("look", 2),), (("set", 0, 1),)))
MARKS = ("none", "perhaps", "sure")


class Turns(unittest.TestCase):
    """What the tests of single tasks share."""

    def go(self, book, sheet, standing, hand, turns):
        """Let a hand do its steps: each turn is its tasks then; the standing behind them all."""
        for number, tasks in enumerate(turns):
            standing = step(book, sheet, standing, hand)
            self.assertEqual(standing[3][hand][1], tasks, (book, number))
        return standing

    def ended(self, book, sheet, row, *deeds):
        """The standing behind these deeds of one hand, with as many to do as it is told then."""
        standing = start(sheet, row, (deeds,))
        while not has_ended(standing):
            standing = step(book, sheet, standing, 0)
        return standing

    def behind(self, book, sheet, row, done, *programs):
        """What programs begin with behind deeds that one hand did: hand 0 has the first program."""
        values, cells, entered, _ = self.ended(book, sheet, row, *done)
        return values, cells, entered, tuple((program, ()) for program in programs)


class Examples(unittest.TestCase):
    def test_the_first_steps(self):
        self.assertEqual(
            after(SIGNALS, PAIR, FIRST, (0, 0))[1], ((None, 0, (), False, None), (None, 0, (), False, 0)))
        self.assertEqual(after(SIGNALS, PAIR, FIRST, (0, 0))[3][0], ((), (("work", 2, (1, (0, 1)), ()),)))
        self.assertEqual(
            after(SIGNALS, PAIR, FIRST, (0, 0, 0, 0))[2:],
            (((), (2,), ()), (((), (("ask", 2, (1, (0, 1)), ()), ("look", 1))), ((("set", 0, 1),), ()))))

    def test_a_look_and_what_it_tells(self):
        done = after(SIGNALS, PAIR, FIRST, (0,) * 12)
        self.assertEqual(done, (
            (0,), ((1, 0, ((0, 0),), False, None), (1, 0, ((1, 1),), False, None)), ((1,), (2,), ()),
            (((), ()), ((("set", 0, 1),), ()))))
        self.assertEqual(told(SIGNALS, PAIR, after(SIGNALS, PAIR, FIRST, (0,) * 11), 0), 1)
        self.assertIsNone(told(SIGNALS, PAIR, FIRST, 0))
        self.assertIs(can_step(SIGNALS, done, 0), False)
        with self.assertRaises(Unfit):
            step(SIGNALS, PAIR, done, 0)

    def test_a_write(self):
        done = after(SIGNALS, PAIR, FIRST, (0,) * 12)
        self.assertEqual([after(SIGNALS, PAIR, done, (1,) * many)[3][1][1] for many in (1, 2, 3, 4, 5)], [
            (("write", 0, 1, 0),), (("write", 0, 1, 1),), (("spread", ((0, 2),), ()),),
            (("spread", (), ((1, 2),)),), (("spread", ((1, 1),), ()),)])
        behind = after(SIGNALS, PAIR, done, (1,) * 8)
        self.assertEqual(kept_cells(behind), ((1, 2), (1, 1)))
        self.assertEqual(behind[2:], (((1,), (2,), ()), (((), ()), ((), ()))))

    def test_nobody_is_entered_yet(self):
        self.assertEqual(after(SIGNALS, PAIR, FIRST, (0, 0, 1, 0, 1, 1, 1))[3][1], ((), ()))

    def test_a_hand_waits(self):
        both = start(PAIR, (0,), ((("look", 2),), (("look", 2),)))
        held = after(SIGNALS, PAIR, both, (0, 0, 1))
        self.assertEqual([can_step(SIGNALS, held, hand) for hand in (0, 1)], [True, False])
        self.assertEqual(held[3][1], ((), (("look", 2),)))

    def test_a_mark_is_lost(self):
        late = SIGNALS[:8] + ("behind",) + SIGNALS[9:]
        standing = start(COPY, (0,), ((("look", 1),), (("set", 0, 1),)))
        self.assertEqual(
            after(late, COPY, standing, (0,) * 5 + (1,) * 6 + (0,) * 2),
            ((1,), ((0, 0, ((0, 0),), True, None),), ((1,), ()), (((), ()), ((), ()))))


class NoTask(Turns):
    def test_a_deed_begins(self):
        for book in (VALUES, SIGNALS, NEVER):
            standing = start(PAIR, (2,), ((("set", 0, 1), ("look", 2), ("look", 0), ("set", 0, 2)),))
            behind = step(book, PAIR, standing, 0)
            self.assertEqual(
                behind, ((2,), standing[1], standing[2],
                         (((("look", 2), ("look", 0), ("set", 0, 2)), (("write", 0, 1, 0),)),)))
            for cell in (0, 1, 2):
                standing = start(PAIR, (2,), ((("look", cell), ("set", 0, 3)),))
                self.assertEqual(
                    step(book, PAIR, standing, 0),
                    ((2,), standing[1], standing[2], (((("set", 0, 3),), (("look", cell),)),)))

    def test_a_set_to_the_value_that_is_there(self):
        for book in (VALUES, SIGNALS, book_with(VALUES, write="last"), book_with(VALUES, write="between")):
            for value in range(4):
                standing = self.behind(book, COPY, (value,), (("look", 1),), (("set", 0, value), ("look", 1)))
                self.assertIsNone(told(book, COPY, standing, 0))
                self.assertEqual(step(book, COPY, standing, 0), standing[:3] + ((((("look", 1),), ()),),))

    def test_a_set_to_it_by_the_time_that_it_begins(self):
        standing = start(COPY, (0,), ((("set", 0, 1),), (("set", 0, 1),)))
        # The value is there once the other hand has stored it, not ahead of that.
        self.assertEqual(after(VALUES, COPY, standing, (0, 1))[3][1], ((), (("write", 0, 1, 0),)))
        self.assertEqual(after(VALUES, COPY, standing, (0, 0, 1))[3][1], ((), ()))

    def test_only_the_own_program_is_begun(self):
        standing = start(COPY, (0,), ((("look", 1),), (("look", 0), ("look", 1)), (("set", 0, 3),)))
        behind = step(VALUES, COPY, standing, 1)
        self.assertEqual(behind[3], (standing[3][0], ((("look", 1),), (("look", 0),)), standing[3][2]))


class Write(Turns):
    """A write of 1 into the input of copy, at which the cell 1 is entered."""

    def written(self, word, turns, values):
        book = book_with(VALUES, write=word)
        standing = self.behind(book, COPY, (0,), (("look", 1),), (("set", 0, 1),))
        for number, tasks in enumerate(turns):
            self.assertIsNone(told(book, COPY, standing, 0))
            standing = step(book, COPY, standing, 0)
            self.assertEqual(standing[3], (((), tasks),), number)
            self.assertEqual(standing[0], (values[number],), number)
        self.assertEqual(standing[1:], (((0, 1, ((0, 0),), True, None),), ((1,), ()), (((), ()),)))

    def test_first(self):
        self.written("first", (
            (("write", 0, 1, 0),), (("write", 0, 1, 1),), (("spread", ((0, 1),), ()),), (("spread", (), ((1, 1),)),),
            (("spread", ((1, 1),), ()),), ()), (0, 1, 1, 1, 1, 1))

    def test_last(self):
        wait = ("write", 0, 1, 1)
        self.written("last", (
            (("write", 0, 1, 0),), (wait, ("spread", ((0, 1),), ())), (wait, ("spread", (), ((1, 1),))),
            (wait, ("spread", ((1, 1),), ())), (wait,), ()), (0, 0, 0, 0, 0, 1))

    def test_between(self):
        wait = ("write", 0, 1, 1)
        self.written("between", (
            (("write", 0, 1, 0),), (wait, ("spread", ((0, 1),), ())), (wait, ("spread", (), ((1, 1),))),
            (wait, ("spread", ((1, 1),), ())), (wait,), (("write", 0, 1, 2),), (("spread", ((0, 1),), ()),),
            (("spread", (), ((1, 1),)),), ()), (0, 0, 0, 0, 0, 1, 1, 1, 1))

    def test_of_several_inputs(self):
        sheet = (3, (0,))
        for x in range(3):
            for v in (1, 2, 3):
                standing = after(VALUES, sheet, start(sheet, (0, 0, 0), ((("set", x, v),),)), (0, 0))
                self.assertEqual(standing[0], tuple(v if other == x else 0 for other in range(3)))

    def test_the_mark_of_readers(self):
        for mark, word in enumerate(MARKS):
            book = book_with(SIGNALS, readers=word)
            standing = start(COPY, (0,), ((("set", 0, 1),),))
            self.assertEqual(after(book, COPY, standing, (0, 0, 0))[3][0][1], (("spread", ((0, mark),), ()),))
            book = book_with(book, write="last")
            self.assertEqual(
                after(book, COPY, standing, (0, 0))[3][0][1], (("write", 0, 1, 1), ("spread", ((0, mark),), ())))


class Spread(Turns):
    def test_readers_and_further(self):
        for readers, one in zip(MARKS, range(3)):
            for further, two in zip(MARKS, range(3)):
                book = book_with(SIGNALS, readers=readers, further=further, stop="marked")
                standing = self.behind(book, COPIES, (0,), (("look", 3),), (("set", 0, 1),))
                turns = [(("write", 0, 1, 0),), (("write", 0, 1, 1),), (("spread", ((0, one),), ()),)]
                if one:
                    turns += [(("spread", (), ((1, one),)),)]
                if one and two:
                    turns += [(("spread", ((1, two),), ()),), (("spread", (), ((2, two),)),),
                              (("spread", ((2, two),), ()),), (("spread", (), ((3, two),)),),
                              (("spread", ((3, two),), ()),)]
                standing = self.go(book, COPIES, standing, 0, turns + [()])
                marks = [one, two if one else 0, two if one else 0]
                self.assertEqual([cell[1] for cell in standing[1]], marks)
                self.assertEqual([cell[3] for cell in standing[1]], [mark > 0 for mark in marks])

    def test_several_readers_ascending(self):
        sheet = (1, ((0, (0, 1)), (0, (0, 1)), (2, (0, 1)), (0, (0, 1)), (1, ((4, (0, 1)),))))
        standing = self.behind(VALUES, sheet, (0,), [("look", c) for c in (4, 5, 3, 2, 1)], (("set", 0, 1),))
        self.assertEqual(standing[2], ((1, 2, 4), (5,), (3,), (), (5,), ()))
        self.go(VALUES, sheet, standing, 0, (
            (("write", 0, 1, 0),), (("write", 0, 1, 1),), (("spread", ((0, 1),), ()),),
            (("spread", (), ((1, 1), (2, 1), (4, 1))),), (("spread", ((1, 1),), ((2, 1), (4, 1))),),
            (("spread", ((1, 1), (2, 1)), ((4, 1),)),), (("spread", ((1, 1), (2, 1), (4, 1)), ()),),
            (("spread", ((2, 1), (4, 1)), ((5, 1),)),), (("spread", ((2, 1), (4, 1), (5, 1)), ()),),
            (("spread", ((4, 1), (5, 1)), ((3, 1),)),), (("spread", ((4, 1), (5, 1), (3, 1)), ()),),
            # The cell 5 was marked by way of the cell 1; by way of the cell 4 it is given its mark again.
            (("spread", ((5, 1), (3, 1)), ((5, 1),)),), (("spread", ((5, 1), (3, 1)), ()),),
            (("spread", ((3, 1),), ()),), ()))

    def test_stop_further_and_the_mark_that_was_there(self):
        for stop in ENTRY_WORDS[2]:
            for further, mark_further in zip(MARKS, range(3)):
                for had in range(3):
                    for given in (1, 2):
                        book = book_with(SIGNALS, stop=stop, further=further)
                        cells = ((0, had, ((0, 0),), False, None), (0, 0, ((1, 0),), False, None))
                        standing = ((0,), cells, ((1,), (2,), ()), (((), (("spread", ((2, 1),), ((1, given),)),)),))
                        on = {"marked": had == 0, "unraised": given > had, "never": True}[stop]
                        if further == "none":
                            on = False
                        waiting = ((2, 1),) + (((1, mark_further),) if on else ())
                        self.assertEqual(
                            step(book, PAIR, standing, 0),
                            ((0,), ((0, max(had, given), ((0, 0),), True, None), cells[1]), standing[2],
                             (((), (("spread", waiting, ()),)),)))

    def test_a_mark_that_rises_in_a_run(self):
        # The cell 3 reads the cell 2, and the input 1; by signals it has perhaps first, and then sure.
        sheet = (2, ((0, (0, 1)), (2, ((1, (0, 1)), 1)), (3, (0, 1))))
        for stop, steps in (("marked", 5), ("unraised", 7), ("never", 8)):
            book = book_with(SIGNALS, stop=stop)
            standing = self.behind(book, sheet, (0, 0), (("look", 4), ("set", 0, 1)), (("set", 1, 1),))
            self.assertEqual([cell[1] for cell in standing[1]], [2, 1, 1])
            done = 0
            while not has_ended(standing):
                standing = step(book, sheet, standing, 0)
                done += 1
            self.assertEqual([cell[1] for cell in standing[1]], [2, 2, 1])
            self.assertEqual(done, steps, stop)

    def test_it_ends_with_the_last_mark_where_it_does_not_go_on(self):
        book = book_with(VALUES, further="none")
        standing = self.behind(book, COPY, (0,), (("look", 1),), (("set", 0, 1), ("look", 0)))
        standing = self.go(book, COPY, standing, 0, (
            (("write", 0, 1, 0),), (("write", 0, 1, 1),), (("spread", ((0, 1),), ()),), (("spread", (), ((1, 1),)),),
            ()))
        self.assertEqual(standing[3], (((("look", 0),), ()),))


class Look(Turns):
    def test_at_an_input(self):
        for book in (VALUES, SIGNALS, NEVER):
            for value in range(4):
                standing = start(COPY, (value,), ((("look", 0), ("look", 0)),))
                self.assertIsNone(told(book, COPY, standing, 0))
                standing = step(book, COPY, standing, 0)
                self.assertEqual(told(book, COPY, standing, 0), value)
                behind = step(book, COPY, standing, 0)
                self.assertEqual(behind, standing[:3] + ((((("look", 0),), ()),),))

    def test_each_word_of_perhaps_sure_strike_and_hands(self):
        for perhaps in ENTRY_WORDS[3]:
            for sure in ENTRY_WORDS[4]:
                for strike in ENTRY_WORDS[8]:
                    for hands in ENTRY_WORDS[11]:
                        book = book_with(SIGNALS, perhaps=perhaps, sure=sure, strike=strike, hands=hands)
                        for mark, word in enumerate(("answer", perhaps, sure)):
                            self.looked(book, mark, word)

    def looked(self, book, mark, word):
        """A look at the cell 1 of pair, which keeps 3 and has this mark, ends or begins it by this word."""
        cell = (3, mark, ((0, 2),), True, None)
        other = (None, 0, (), False, None)
        standing = ((0,), (cell, other), ((1,), (), ()), (((), ()), (((("look", 0),), (("look", 1),)))))
        behind = step(book, PAIR, standing, 1)
        if word == "answer":
            self.assertEqual(told(book, PAIR, standing, 1), 3)
            self.assertEqual(behind, standing[:3] + ((((), ()), ((("look", 0),), ())),))
            return
        self.assertIsNone(told(book, PAIR, standing, 1))
        begun = (3, 0 if book[8] == "ahead" else mark, ((0, 2),), False, 1 if book[11] == "one" else None)
        task = ("check", 1, ((0, 2),), 0) if word == "check" else ("work", 1, (0, (1, 0)), ())
        self.assertEqual(
            behind, (standing[0], (begun, other), standing[2], (((), ()), ((("look", 0),), (task,)))))

    def test_where_nothing_is_kept(self):
        for mark in (0, 1, 2):
            for words in ({}, {"perhaps": "answer", "sure": "answer"}, {"perhaps": "check", "sure": "check"}):
                for strike in ENTRY_WORDS[8]:
                    book = book_with(VALUES, strike=strike, **words)
                    standing = ((0,), ((None, mark, (), True, None),), ((), ()), (((), (("look", 1),)),))
                    begun = (None, 0 if strike == "ahead" else mark, (), False, 0)
                    self.assertEqual(
                        step(book, COPY, standing, 0),
                        ((0,), (begun,), ((), ()), (((), (("work", 1, (0, (0, 1)), ()),)),)))

    def test_where_nought_is_kept(self):
        standing = ((1,), ((0, 0, ((0, 0),), False, None),), ((1,), ()), (((), (("look", 1),)),))
        self.assertEqual(told(VALUES, COPY, standing, 0), 0)

    def test_a_record_that_is_empty(self):
        # A check has nothing to look at, and goes straight to its end.
        for mark in (1, 2):
            for check in ("values", "mark"):
                for strike, left in (("ahead", 0), ("behind", mark), ("unless", mark)):
                    book = book_with(VALUES, perhaps="check", sure="check", check=check, strike=strike)
                    standing = ((0,), ((3, mark, (), True, None),), ((), ()), (((), (("look", 1),)),))
                    behind = step(book, (1, (3,)), standing, 0)
                    self.assertEqual(
                        behind, ((0,), ((3, left, (), False, 0),), ((), ()), (((), (("end", 1),)),)))
                    self.assertEqual(told(book, (1, (3,)), behind, 0), 3)
                    self.assertEqual(
                        step(book, (1, (3,)), behind, 0),
                        ((0,), ((3, 0, (), False, None),), ((), ()), (((), ()),)))

    def test_a_formula_that_is_a_value(self):
        sheet = (1, (3, (1, (0, 1, 2, 2))))
        standing = start(sheet, (0,), ((("look", 2), ("look", 1)),))
        standing = self.go(VALUES, sheet, standing, 0, (
            (("look", 2),), (("work", 2, (1, (0, 1, 2, 2)), ()),), (("ask", 2, (1, (0, 1, 2, 2)), ()),),
            (("ask", 2, (1, (0, 1, 2, 2)), ()), ("look", 1)), (("ask", 2, (1, (0, 1, 2, 2)), ()), ("work", 1, 3, ())),
            (("ask", 2, (1, (0, 1, 2, 2)), ()), ("end", 1)), (("work", 2, 2, ((1, 3),)),), (("end", 2),), ()))
        self.assertEqual(standing[1], ((3, 0, (), False, None), (2, 0, ((1, 3),), False, None)))
        self.assertEqual(standing[2], ((), (2,), ()))
        standing = step(VALUES, sheet, standing, 0)
        self.assertEqual(told(VALUES, sheet, standing, 0), 3)


class Check(Turns):
    """Looks at the cell 2, which reads the cell 1, then the input, where it has kept this and is marked."""

    SHEET = (1, ((0, (0, 0, 1)), (1, ((0, (0, 1, 2)), 3))))

    def marked(self, book, value):
        return self.behind(book, self.SHEET, (0,), (("look", 2), ("set", 0, value)), (("look", 2),))

    def test_by_values_where_nothing_is_another_one(self):
        standing = self.behind(
            VALUES, self.SHEET, (0,), (("look", 2), ("set", 0, 1), ("set", 0, 0)), (("look", 2),))
        reads = ((1, 0), (0, 0))
        standing = self.go(VALUES, self.SHEET, standing, 0, (
            (("look", 2),), (("check", 2, reads, 0),), (("check", 2, reads, 0), ("look", 1)),
            (("check", 2, reads, 0), ("check", 1, ((0, 0),), 0)),
            (("check", 2, reads, 0), ("check", 1, ((0, 0),), 0), ("look", 0)),
            (("check", 2, reads, 0), ("compare", 1, ((0, 0),), 0, 0)), (("check", 2, reads, 0), ("end", 1)),
            (("compare", 2, reads, 0, 0),), (("check", 2, reads, 1),), (("check", 2, reads, 1), ("look", 0)),
            (("compare", 2, reads, 1, 0),), (("end", 2),)))
        self.assertEqual(told(VALUES, self.SHEET, standing, 0), 0)
        standing = step(VALUES, self.SHEET, standing, 0)
        self.assertEqual(standing[1:3], (
            ((0, 0, ((0, 0),), False, None), (0, 0, reads, False, None)), ((1, 2), (2,), ())))

    def test_by_values_where_one_is_another_one(self):
        standing = self.marked(VALUES, 1)
        reads = ((1, 0), (0, 0))
        left = (1, ((0, (0, 1, 2)), 3))
        self.go(VALUES, self.SHEET, standing, 0, (
            (("look", 2),), (("check", 2, reads, 0),), (("check", 2, reads, 0), ("look", 1)),
            (("check", 2, reads, 0), ("check", 1, ((0, 0),), 0)),
            (("check", 2, reads, 0), ("check", 1, ((0, 0),), 0), ("look", 0)),
            (("check", 2, reads, 0), ("compare", 1, ((0, 0),), 0, 1)),
            (("check", 2, reads, 0), ("work", 1, (0, (0, 0, 1)), ())),
            (("check", 2, reads, 0), ("ask", 1, (0, (0, 0, 1)), ())),
            (("check", 2, reads, 0), ("ask", 1, (0, (0, 0, 1)), ()), ("look", 0)),
            (("check", 2, reads, 0), ("work", 1, 0, ((0, 1),))), (("check", 2, reads, 0), ("end", 1)),
            (("compare", 2, reads, 0, 0),), (("check", 2, reads, 1),), (("check", 2, reads, 1), ("look", 0)),
            (("compare", 2, reads, 1, 1),), (("work", 2, left, ()),), (("ask", 2, left, ()),),
            (("ask", 2, left, ()), ("look", 1)), (("work", 2, (0, (0, 1, 2)), ((1, 0),)),),
            (("ask", 2, (0, (0, 1, 2)), ((1, 0),)),), (("ask", 2, (0, (0, 1, 2)), ((1, 0),)), ("look", 0)),
            (("work", 2, 1, ((1, 0), (0, 1))),), (("end", 2),), ()))

    def test_what_comes_behind_a_compare(self):
        reads = ((1, 0), (0, 0))
        left = self.SHEET[1][1]
        for check in ("values", "mark"):
            for mark in (0, 1, 2):
                for place in (0, 1):
                    for value in range(4):
                        book = book_with(SIGNALS, check=check)
                        cells = ((0, 0, (), False, None), (0, mark, reads, True, 0))
                        standing = ((0,), cells, ((), (), ()), (((), (("compare", 2, reads, place, value),)),))
                        found = value != 0 if check == "values" else mark == 2
                        task = ("work", 2, left, ()) if found else (("check", 2, reads, 1), ("end", 2))[place]
                        self.assertEqual(
                            step(book, self.SHEET, standing, 0), standing[:3] + ((((), (task,)),),))

    def test_by_mark_a_mark_of_change_is_found(self):
        # The cell 2 has perhaps; what it reads is worked out to another value, and makes it sure meanwhile.
        standing = self.marked(SIGNALS, 2)
        self.assertEqual([cell[1] for cell in standing[1]], [2, 2])
        sheet = COPIES
        standing = self.behind(SIGNALS, sheet, (0,), (("look", 2), ("set", 0, 2)), (("look", 2),))
        self.assertEqual(kept_cells(standing), ((0, 2), (0, 1), (None, 0)))
        reads = ((1, 0),)
        copy, left = sheet[1][0], sheet[1][1]
        standing = self.go(SIGNALS, sheet, standing, 0, (
            (("look", 2),), (("check", 2, reads, 0),), (("check", 2, reads, 0), ("look", 1)),
            (("check", 2, reads, 0), ("work", 1, copy, ())), (("check", 2, reads, 0), ("ask", 1, copy, ())),
            (("check", 2, reads, 0), ("ask", 1, copy, ()), ("look", 0)),
            (("check", 2, reads, 0), ("work", 1, 2, ((0, 2),))),
            (("check", 2, reads, 0), ("end", 1), ("spread", ((1, 2),), ())),
            (("check", 2, reads, 0), ("end", 1), ("spread", (), ((2, 2),))),
            (("check", 2, reads, 0), ("end", 1), ("spread", ((2, 1),), ())),
            (("check", 2, reads, 0), ("end", 1)), (("compare", 2, reads, 0, 2),), (("work", 2, left, ()),)))
        self.assertEqual(standing[1][1], (0, 2, ((1, 0),), True, 0))

    def test_by_mark_nobody_changes(self):
        # The cell 1 is worked out to the same value, so the mark perhaps of the cell 2 finds nothing.
        sheet = (1, ((0, (0, 0, 1)), (1, (2, 3))))
        standing = self.behind(SIGNALS, sheet, (0,), (("look", 2), ("set", 0, 1)), (("look", 2),))
        self.assertEqual(kept_cells(standing), ((0, 2), (2, 1)))
        words = []
        while not has_ended(standing):
            standing = step(SIGNALS, sheet, standing, 0)
            words.append([task[:2] for task in standing[3][0][1]])
        self.assertIn([("compare", 2)], words)
        self.assertIn([("end", 2)], words)
        self.assertNotIn([("work", 2)], words)

    def test_a_check_looks_at_what_the_record_has(self):
        reads = ((0, 1), (0, 2))
        for place in (0, 1):
            standing = ((0,), ((1, 0, reads, False, 0),), ((), ()), (((), (("check", 1, reads, place),)),))
            self.assertEqual(
                step(VALUES, COPY, standing, 0)[3], (((), (("check", 1, reads, place), ("look", 0))),))


class Work(Turns):
    TWICE = (2, ((0, ((1, ((0, (0, 1)), 2)), (0, (3, 1)))),))

    def test_enter_ahead(self):
        sheet = self.TWICE
        whole = sheet[1][0]
        one = whole[1][0]
        two = one[1][0]
        standing = start(sheet, (0, 0), ((("look", 2),),))
        entered = []
        turns = (
            (("look", 2),), (("work", 2, whole, ()),), (("ask", 2, whole, ()),), (("ask", 2, whole, ()), ("look", 0)),
            (("work", 2, one, ((0, 0),)),), (("ask", 2, one, ((0, 0),)),), (("ask", 2, one, ((0, 0),)), ("look", 1)),
            (("work", 2, two, ((0, 0), (1, 0))),), (("ask", 2, two, ((0, 0), (1, 0))),),
            (("ask", 2, two, ((0, 0), (1, 0))), ("look", 0)), (("work", 2, 0, ((0, 0), (1, 0), (0, 0))),),
            (("end", 2),), ())
        for tasks in turns:
            standing = self.go(VALUES, sheet, standing, 0, (tasks,))
            entered.append(standing[2])
        self.assertEqual(entered, (
            [((), (), ())] * 2 + [((2,), (), ())] * 3 + [((2,), (2,), ())] * 8))
        self.assertEqual(standing[1], ((0, 0, ((0, 0), (1, 0), (0, 0)), False, None),))

    def test_enter_behind(self):
        sheet = self.TWICE
        whole = sheet[1][0]
        one = whole[1][0]
        two = one[1][0]
        book = book_with(VALUES, enter="behind")
        standing = start(sheet, (0, 0), ((("look", 2),),))
        entered = []
        turns = (
            (("look", 2),), (("work", 2, whole, ()),), (("ask", 2, whole, ()), ("look", 0)),
            (("enter", 2, whole, (), 0),), (("work", 2, one, ((0, 0),)),), (("ask", 2, one, ((0, 0),)), ("look", 1)),
            (("enter", 2, one, ((0, 0),), 0),), (("work", 2, two, ((0, 0), (1, 0))),),
            (("ask", 2, two, ((0, 0), (1, 0))), ("look", 0)), (("enter", 2, two, ((0, 0), (1, 0)), 0),),
            (("work", 2, 0, ((0, 0), (1, 0), (0, 0))),), (("end", 2),), ())
        for tasks in turns:
            standing = self.go(book, sheet, standing, 0, (tasks,))
            entered.append(standing[2])
        self.assertEqual(entered, (
            [((), (), ())] * 4 + [((2,), (), ())] * 3 + [((2,), (2,), ())] * 6))
        self.assertEqual(standing[1], ((0, 0, ((0, 0), (1, 0), (0, 0)), False, None),))

    def test_branches(self):
        for many in range(1, 5):
            for value in range(4):
                left = (0, (3, 1, 2, 0)[:many])
                taken = (3, 1, 2, 0)[min(value, many - 1)]
                for task, enter in ((("enter", 1, left, (), value), "behind"), (("ask", 1, left, ()), "ahead")):
                    tasks = (task,) if enter == "behind" else (task, ("look", 0))
                    standing = ((value,), ((None, 0, (), False, 0),), ((), ()), (((), tasks),))
                    behind = step(book_with(VALUES, enter=enter), (1, (left,)), standing, 0)
                    self.assertEqual(behind[3], (((), (("work", 1, taken, ((0, value),)),)),))
                    self.assertEqual(behind[2], ((1,) if enter == "behind" else (), ()))

    def test_entered_in_order_and_once(self):
        sheet = (1, ((0, (0,)), (0, (0,)), (0, (0,))))
        left = sheet[1][1]
        for had, has in (((), (2,)), ((1,), (1, 2)), ((3,), (2, 3)), ((1, 3), (1, 2, 3)), ((2,), (2,)),
                         ((1, 2, 3), (1, 2, 3))):
            for task, word in ((("work", 2, left, ()), "ahead"), (("enter", 2, left, (), 0), "behind")):
                cells = ((None, 0, (), False, None), (None, 0, (), False, 0), (None, 0, (), False, None))
                standing = ((0,), cells, (had, (), (), ()), (((), (task,)),))
                behind = step(book_with(VALUES, enter=word), sheet, standing, 0)
                self.assertEqual(behind[:3], ((0,), cells, (has, (), (), ())))

    def test_old_and_what_is_not_read_any_more(self):
        # Where the input 0 is 0 the cell 2 reads the input 1, else it does not.
        sheet = (2, ((0, ((1, (0, 1)), 1)),))
        for old, entered in (("struck", ((2,), (), ())), ("kept", ((2,), (2,), ()))):
            book = book_with(VALUES, old=old)
            standing = self.behind(book, sheet, (0, 0), (("look", 2), ("set", 0, 1)), (("look", 2),))
            self.assertEqual(standing[2], ((2,), (2,), ()))
            while standing[3][0][1] != (("end", 2),):
                self.assertEqual(standing[2], ((2,), (2,), ()))
                standing = step(book, sheet, standing, 0)
            self.assertEqual(standing[2], entered)
            self.assertEqual(standing[1], ((1, 0, ((0, 1),), False, 0),))

    def test_old_strikes_this_cell_alone(self):
        sheet = (2, ((0, ((1, (0, 1)), 1)), (1, (0, 1)), (0, ((1, (0, 1)), 1))))
        deeds = (("look", 2), ("look", 3), ("look", 4), ("set", 0, 1), ("look", 2))
        self.assertEqual(self.ended(VALUES, sheet, (0, 0), *deeds)[2], ((2, 4), (3, 4), (), (), ()))

    def test_change(self):
        for change, mark in (("none", 0), ("sure", 2)):
            for had, value, spreads in ((None, 0, False), (None, 2, False), (2, 2, False), (0, 0, False),
                                        (0, 2, True), (2, 0, True), (3, 1, True)):
                book = book_with(VALUES, change=change)
                task = ("work", 1, value, ((0, 1),))
                standing = ((1,), ((had, 1, ((0, 0),), True, 0),), ((1,), ()), (((), (task,)),))
                tasks = (("end", 1),)
                if spreads and change == "sure":
                    tasks += (("spread", ((1, mark),), ()),)
                self.assertEqual(
                    step(book, COPY, standing, 0),
                    ((1,), ((value, 1, ((0, 1),), True, 0),), ((1,), ()), (((), tasks),)))

    def test_what_change_marks(self):
        for stop in ("marked", "unraised"):
            book = book_with(VALUES, change="sure", stop=stop)
            standing = self.behind(book, COPIES, (0,), (("look", 3), ("set", 0, 1)), (("look", 1),))
            self.assertEqual(kept_cells(standing), ((0, 1), (0, 1), (0, 1)))
            while not has_ended(standing):
                standing = step(book, COPIES, standing, 0)
            # Above the cell 2 spreading goes on where the mark rose.
            self.assertEqual(kept_cells(standing), ((1, 0), (0, 2), (0, 1)))
            again = [cell[3] for cell in standing[1]]
            self.assertEqual(again, [False, True, True])


class End(Turns):
    def test_strike(self):
        for strike in ENTRY_WORDS[8]:
            for mark in (0, 1, 2):
                for again in (False, True):
                    left = {"ahead": mark, "behind": 0, "unless": mark if again else 0}[strike]
                    for hands, holder in (("one", 0), ("any", None)):
                        book = book_with(VALUES, strike=strike, hands=hands)
                        cell = (3, mark, ((0, 1),), again, holder)
                        standing = ((1,), (cell,), ((1,), ()), (((("look", 0),), (("end", 1),)),))
                        self.assertEqual(told(book, COPY, standing, 0), 3)
                        self.assertEqual(
                            step(book, COPY, standing, 0),
                            ((1,), ((3, left, ((0, 1),), again, None),), ((1,), ()), (((("look", 0),), ()),)))

    def test_what_waits_for_the_answer(self):
        left = (1, (0, 1, 2, 3))
        for enter in ("ahead", "behind"):
            book = book_with(VALUES, enter=enter)
            cells = ((2, 0, (), False, 0), (0, 0, (), False, 0))
            for waiting, behind in (
                    (("check", 2, ((0, 3), (1, 1)), 1), ("compare", 2, ((0, 3), (1, 1)), 1, 2)),
                    (("ask", 2, left, ((0, 0),)), ("work", 2, 2, ((0, 0), (1, 2))) if enter == "ahead"
                     else ("enter", 2, left, ((0, 0),), 2))):
                standing = ((0,), cells, ((), (), ()), (((), (("check", 3, (), 0), waiting, ("end", 1))),))
                self.assertIsNone(told(book, PAIR, standing, 0))
                self.assertEqual(
                    step(book, PAIR, standing, 0),
                    ((0,), ((2, 0, (), False, None), cells[1]), ((), (), ()),
                     (((), (("check", 3, (), 0), behind)),)))

    def given_meanwhile(self, strike):
        """The mark of the cell 1 that is given while it is worked at, at its end and behind it."""
        book = book_with(VALUES, strike=strike)
        standing = start(COPY, (0,), ((("look", 1),), (("set", 0, 1),)))
        standing = after(book, COPY, standing, (0, 0, 0, 1, 1, 1, 1, 1, 1))
        self.assertEqual(standing[1][0], (None, 1, (), True, 0))
        standing = after(book, COPY, standing, (0,) * 3)
        self.assertEqual(standing[3][0], ((), (("end", 1),)))
        self.assertEqual(standing[1][0], (1, 1, ((0, 1),), True, 0))
        return step(book, COPY, standing, 0)[1][0][1]

    def test_a_mark_that_is_given_meanwhile(self):
        self.assertEqual([self.given_meanwhile(strike) for strike in ("ahead", "behind", "unless")], [1, 0, 1])

    def test_the_elder_mark(self):
        # A mark that was there when the look began is struck by each word.
        for strike in ENTRY_WORDS[8]:
            book = book_with(VALUES, strike=strike)
            standing = self.behind(book, COPY, (0,), (("look", 1), ("set", 0, 1)), (("look", 1),))
            standing = after(book, COPY, standing, (0, 0))
            self.assertEqual(standing[1][0][1], 0 if strike == "ahead" else 1)
            while standing[3][0][1] != (("end", 1),):
                standing = step(book, COPY, standing, 0)
            self.assertEqual(standing[1][0][1], 0 if strike == "ahead" else 1)
            self.assertEqual(step(book, COPY, standing, 0)[1][0][1], 0)


class Told(Turns):
    def test_just_at_the_steps_by_which_looks_are_done(self):
        for seed in range(150):
            dice = random.Random(seed)
            sheet = made_small_sheet(dice)
            book = made_book(dice)
            programs = tuple(made_deeds(dice, sheet, 5) for _ in range(dice.randrange(1, 4)))
            standing = start(sheet, made_row(dice, sheet), programs)
            looks = [0] * len(programs)
            while not has_ended(standing):
                hand = dice.choice([hand for hand in range(len(programs)) if can_step(book, standing, hand)])
                value = told(book, sheet, standing, hand)
                left, tasks = standing[3][hand]
                behind = step(book, sheet, standing, hand)
                deed = programs[hand][len(programs[hand]) - len(left) - 1] if tasks else ("none",)
                if deed[0] == "look" and behind[3][hand][1] == ():
                    self.assertIs(type(value), int)
                    self.assertEqual(value, (standing[0] + tuple(cell[0] for cell in behind[1]))[deed[1]])
                    looks[hand] += 1
                else:
                    self.assertIsNone(value)
                standing = behind
            self.assertEqual(looks, [len([deed for deed in program if deed[0] == "look"]) for program in programs])


class UnfitSteps(Turns):
    def unfit(self, function, *arguments):
        with self.assertRaises(Unfit):
            function(*arguments)

    def test_a_hand_that_has_ended(self):
        for standing, hand in ((start(COPY, (0,), ((),)), 0), (start(COPY, (0,), ((("look", 1),), ())), 1),
                               (self.ended(VALUES, COPY, (0,), ("look", 1)), 0),
                               (start(COPY, (0,), ((("look", 1),), (("look", 0),), ())), 2)):
            for book in (VALUES, SIGNALS, NEVER):
                self.unfit(step, book, COPY, standing, hand)
                self.unfit(told, book, COPY, standing, hand)
                self.unfit(after, book, COPY, standing, (hand,))

    def test_a_hand_that_waits(self):
        standing = start(COPY, (0,), ((("look", 1),), (("look", 1),)))
        held = after(VALUES, COPY, standing, (0, 1, 1))
        for _ in range(5):
            self.unfit(step, VALUES, COPY, held, 0)
            self.unfit(told, VALUES, COPY, held, 0)
            self.unfit(after, VALUES, COPY, held, (0,))
            held = step(VALUES, COPY, held, 1)
        self.assertIsNotNone(step(VALUES, COPY, held, 0))

    def test_a_step_amid_an_order(self):
        standing = start(COPY, (0,), ((("look", 1),), (("look", 1),)))
        for order in ((0, 1, 1, 0), (0,) * 8, (0,) * 7 + (1, 1, 1), (1, 0, 0, 1), (0, 0, 0, 1, 1)):
            after(VALUES, COPY, standing, order[:-1])
            self.unfit(after, VALUES, COPY, standing, order)
            self.unfit(after, VALUES, COPY, standing, order + (0,) * 100)


class After(Turns):
    MANY = (("set", 0, 1), ("look", 8), ("set", 0, 0), ("look", 8)) * 50

    def test_no_step(self):
        for book in (VALUES, NEVER):
            for standing in (FIRST, after(VALUES, PAIR, FIRST, (0, 0, 1, 0)), self.ended(VALUES, COPY, (0,))):
                self.assertEqual(after(book, PAIR, standing, ()), standing)

    def test_one_behind_another(self):
        for seed in range(60):
            dice = random.Random(seed)
            sheet = made_small_sheet(dice)
            book = made_book(dice)
            programs = tuple(made_deeds(dice, sheet, 4) for _ in range(dice.randrange(1, 4)))
            first = standing = start(sheet, made_row(dice, sheet), programs)
            order = ()
            while not has_ended(standing):
                hand = dice.choice([hand for hand in range(len(programs)) if can_step(book, standing, hand)])
                order += (hand,)
                standing = step(book, sheet, standing, hand)
            self.assertEqual(after(book, sheet, first, order), standing)
            cut = dice.randrange(len(order) + 1)
            self.assertEqual(after(book, sheet, after(book, sheet, first, order[:cut]), order[cut:]), standing)

    def test_as_many_steps_as_may_be(self):
        first = start(EIGHT, (0,), (self.MANY, self.MANY))
        half = after(VALUES, EIGHT, first, (0,) * 2000)
        whole = after(VALUES, EIGHT, first, (0,) * 4000)
        self.assertEqual(after(VALUES, EIGHT, half, (0,) * 2000), whole)
        self.assertFalse(has_ended(whole))
        self.assertTrue(can_step(VALUES, whole, 0))

    def test_too_many_steps_ahead_of_all_else(self):
        first = start(EIGHT, (0,), (self.MANY, ()))
        for order in ((0,) * 4001, (1,) * 4001, (1,) + (0,) * 4000, (0,) * 5000, (0,) * 4000 + (1,)):
            with self.assertRaises(TooMany) as caught:
                after(VALUES, EIGHT, first, order)
            self.assertEqual(caught.exception.limit, 4000)
            if len(order) == 4001 and order[0] == 1:
                with self.assertRaises(Unfit):
                    after(VALUES, EIGHT, first, order[:4000])


class Calls(unittest.TestCase):
    def test_by_place_and_by_name(self):
        for book in (VALUES, SIGNALS, NEVER):
            standing = FIRST
            for hand in (0, 0, 0, 0, 1, 1, 1, 0, 1):
                for other in (0, 1):
                    check_calls(self, step, book=book, sheet=PAIR, standing=standing, hand=other)
                    check_calls(self, told, book=book, sheet=PAIR, standing=standing, hand=other)
                    check_calls(self, after, book=book, sheet=PAIR, standing=standing, order=(hand, other, other))
                standing = step(book, PAIR, standing, hand)
        check_calls(self, after, book=VALUES, sheet=PAIR, standing=FIRST, order=(0,) * 4001)
        check_calls(self, step, book=VALUES, sheet=PAIR, standing=start(PAIR, (0,), ((),)), hand=0)
