"""C4 with several hands, C8, and B7 as far as it speaks of runs: drawn runs, beside what holds and a slow reckoning."""

import random
import unittest

from keptmarks.asking import true_value
from keptmarks.books import can_stand
from keptmarks.onehand import safe_alone
from keptmarks.standings import can_step, has_ended, kept_cells, start
from keptmarks.steps import after, step, told
from tests.samples import (
    COPIES, COPY, ENTRY_WORDS, NEVER, PAIR, VALUES, book_with, made_book, made_deeds, made_row,
    made_small_sheet, some_books,
)
from tests.slowhands import SlowHands

OWN_TASKS = ("check", "compare", "work", "ask", "enter", "end")


def drawn_runs(many, seed, deeds=6, book=None):
    """So many books, sheets, rows and programs of one hand, two or three, with a dice for the turns."""
    for number in range(many):
        dice = random.Random(seed * 100000 + number)
        sheet = made_small_sheet(dice, dice.choice((2, 3, 5)))
        programs = tuple(made_deeds(dice, sheet, dice.randrange(deeds + 1)) for _ in range(dice.randrange(1, 4)))
        yield book or made_book(dice), sheet, made_row(dice, sheet), programs, dice


def hands_that_can(book, standing):
    return [hand for hand in range(len(standing[3])) if can_step(book, standing, hand)]


def standings_of_run(book, sheet, row, programs, dice):
    """All standings of a drawn run, each with the hand of the step that led to it."""
    standing = start(sheet, row, programs)
    yield standing, None
    while not has_ended(standing):
        hand = dice.choice(hands_that_can(book, standing))
        standing = step(book, sheet, standing, hand)
        yield standing, hand


class BesideASlowReckoning(unittest.TestCase):
    def test_each_standing_and_what_is_told(self):
        for book, sheet, row, programs, dice in drawn_runs(1500, 1):
            slow = SlowHands(book, sheet, row, programs)
            standing = start(sheet, row, programs)
            while True:
                self.assertEqual(standing, slow.standing())
                can = hands_that_can(book, standing)
                self.assertEqual(can, [hand for hand in range(len(programs)) if slow.can(hand)])
                if not can:
                    break
                hand = dice.choice(can)
                answer = told(book, sheet, standing, hand)
                standing = step(book, sheet, standing, hand)
                self.assertEqual(answer, slow.turn(hand))
            self.assertTrue(has_ended(standing))

    def test_each_word_of_each_entry(self):
        dice = random.Random(2)
        for place, words in enumerate(ENTRY_WORDS):
            for word in words:
                for _, sheet, row, programs, _ in drawn_runs(30, 20 + place):
                    drawn = made_book(dice)
                    book = drawn[:place] + (word,) + drawn[place + 1:]
                    slow = SlowHands(book, sheet, row, programs)
                    for standing, hand in standings_of_run(book, sheet, row, programs, dice):
                        if hand is not None:
                            slow.turn(hand)
                        self.assertEqual(standing, slow.standing())


class TwoHandsAndThree(unittest.TestCase):
    def test_a_cell_is_held_and_let_go(self):
        standing = start(COPY, (2,), ((("look", 1),), (("look", 1),), (("look", 1), ("set", 0, 0))))
        standing = after(VALUES, COPY, standing, (0, 1, 2))
        self.assertEqual(hands_that_can(VALUES, standing), [0, 1, 2])
        standing = step(VALUES, COPY, standing, 1)
        while standing[3][1] != ((), ()):
            self.assertEqual(standing[1][0][4], 1)
            self.assertEqual(hands_that_can(VALUES, standing), [1])
            standing = step(VALUES, COPY, standing, 1)
        # Now it is clean, and the two that waited are answered by a step each.
        self.assertEqual(hands_that_can(VALUES, standing), [0, 2])
        self.assertEqual([told(VALUES, COPY, standing, hand) for hand in (0, 2)], [1, 1])
        standing = after(VALUES, COPY, standing, (2, 0))
        self.assertEqual(standing[3], (((), ()), ((), ()), ((("set", 0, 0),), ())))

    def test_one_that_waited_begins_a_cell_that_is_marked_again(self):
        standing = start(COPY, (0,), ((("look", 1),), (("look", 1),), (("set", 0, 1),)))
        standing = after(VALUES, COPY, standing, (0,) * 5 + (1,) + (2,) * 6)
        self.assertEqual(standing[1][0], (None, 1, (), True, 0))
        standing = after(VALUES, COPY, standing, (0, 0))
        self.assertEqual(standing[1][0], (0, 1, ((0, 0),), True, None))
        standing = step(VALUES, COPY, standing, 1)
        self.assertEqual(standing[1][0], (0, 0, ((0, 0),), False, 1))
        self.assertEqual(standing[3][1], ((), (("check", 1, ((0, 0),), 0),)))
        standing = after(VALUES, COPY, standing, (1,) * 7)
        self.assertEqual(told(VALUES, COPY, standing, 1), 1)
        self.assertEqual(step(VALUES, COPY, standing, 1)[1][0], (1, 0, ((0, 1),), False, None))

    def test_a_mark_that_is_given_between_reading_and_keeping(self):
        for strike, mark in (("ahead", 1), ("behind", 0), ("unless", 1)):
            book = book_with(VALUES, strike=strike)
            standing = start(COPY, (0,), ((("look", 1),), (("set", 0, 1),)))
            standing = after(book, COPY, standing, (0,) * 5 + (1,) * 6)
            self.assertEqual(standing[3][0], ((), (("work", 1, 0, ((0, 0),)),)))
            self.assertEqual(after(book, COPY, standing, (0, 0))[1][0], (0, mark, ((0, 0),), True, None))

    def test_a_mark_that_is_given_where_nobody_is_entered_yet(self):
        for enter, mark in (("ahead", 1), ("behind", 0)):
            book = book_with(VALUES, enter=enter)
            standing = start(COPY, (0,), ((("look", 1),), (("set", 0, 1),)))
            standing = after(book, COPY, standing, (0,) * (5 if enter == "ahead" else 4) + (1,) * 4)
            while can_step(book, standing, 1):
                standing = step(book, COPY, standing, 1)
            while can_step(book, standing, 0):
                standing = step(book, COPY, standing, 0)
            self.assertEqual(kept_cells(standing), ((0, mark),))

    def test_two_hands_work_at_one_cell_with_any(self):
        book = book_with(VALUES, hands="any")
        standing = start(COPY, (0,), ((("look", 1),), (("look", 1),), (("set", 0, 1),)))
        standing = after(book, COPY, standing, (0,) * 5)
        self.assertEqual(standing[3][0], ((), (("work", 1, 0, ((0, 0),)),)))
        standing = after(book, COPY, standing, (2,) * 6 + (1,) * 2)
        self.assertEqual(standing[1][0], (None, 0, (), False, None))
        self.assertEqual(standing[3][1], ((), (("work", 1, (0, (0, 1)), ()),)))
        standing = after(book, COPY, standing, (1,) * 4)
        self.assertEqual(standing[1][0], (1, 0, ((0, 1),), False, None))
        standing = after(book, COPY, standing, (0, 0))
        # The elder value is kept behind the newer one, and this one's record is gone, too.
        self.assertEqual(standing[1][0], (0, 0, ((0, 0),), False, None))
        self.assertEqual(told(book, COPY, standing, 1), 0)

    def test_by_a_word_of_change_who_keeps_last_sees_the_other_value(self):
        book = book_with(VALUES, hands="any", change="sure")
        standing = start(PAIR, (1,), ((("look", 1),), (("look", 1),), (("set", 0, 0),)))
        standing = after(book, PAIR, standing, (0,) * 5 + (1,) * 2 + (2,) * 6 + (1,) * 3)
        self.assertEqual([hand[1][-1][0] for hand in standing[3][:2]], ["work", "work"])
        standing = step(book, PAIR, standing, 0)
        self.assertEqual(standing[3][0][1], (("end", 1),))
        standing = step(book, PAIR, standing, 1)
        self.assertEqual(standing[3][1][1], (("end", 1), ("spread", ((1, 2),), ())))

    def test_checks_of_two_hands(self):
        standing = start(PAIR, (0,), ((("look", 2), ("set", 0, 1), ("look", 2)), (("look", 1),)))
        standing = after(VALUES, PAIR, standing, (0,) * 20 + (1,))
        self.assertEqual(kept_cells(standing), ((1, 1), (1, 1)))
        # The hand 1 begins the cell 1 while the hand 0 checks the cell 2, and is about to look at the cell 1.
        standing = after(VALUES, PAIR, standing, (0, 0, 0, 1))
        self.assertEqual([cell[4] for cell in standing[1]], [1, 0])
        self.assertEqual(hands_that_can(VALUES, standing), [1])
        while can_step(VALUES, standing, 1):
            self.assertEqual(can_step(VALUES, standing, 0), False)
            standing = step(VALUES, PAIR, standing, 1)
        self.assertEqual(hands_that_can(VALUES, standing), [0])
        standing = step(VALUES, PAIR, standing, 0)
        self.assertEqual(standing[3][0][1], (("compare", 2, ((1, 1),), 0, 0),))


class WhatHolds(unittest.TestCase):
    def test_records_are_what_formulas_read(self):
        for book, sheet, row, programs, dice in drawn_runs(500, 3):
            inputs, formulas = sheet
            for (values, cells, entered, hands), _ in standings_of_run(book, sheet, row, programs, dice):
                for (kept, mark, reads, again, holder), formula in zip(cells, formulas):
                    if kept is None:
                        self.assertEqual(reads, ())
                        continue
                    for cell, value in reads:
                        self.assertEqual(formula[0], cell)
                        formula = formula[1][value] if value < len(formula[1]) else formula[1][-1]
                    self.assertEqual(formula, kept)

    def test_a_cell_that_is_read_twice_with_two_values(self):
        sheet = (1, ((0, ((0, (0, 1)), (0, (2, 3)))),))
        standing = start(sheet, (0,), ((("look", 1),), (("set", 0, 1),)))
        standing = after(VALUES, sheet, standing, (0,) * 5 + (1,) * 2 + (0,) * 4)
        self.assertEqual(standing[1][0][:3], (1, 0, ((0, 0), (0, 1))))

    def test_holders_are_the_hands_with_a_task_of_the_cell(self):
        for book, sheet, row, programs, dice in drawn_runs(500, 4):
            for (values, cells, entered, hands), _ in standings_of_run(book, sheet, row, programs, dice):
                at_work = {}
                for hand, (left, tasks) in enumerate(hands):
                    for task in tasks:
                        if task[0] in OWN_TASKS:
                            at_work.setdefault(task[1], []).append(hand)
                for spot, cell in enumerate(cells):
                    found = at_work.get(sheet[0] + spot, [])
                    if book[11] == "one":
                        self.assertEqual(found, [] if cell[4] is None else [cell[4]])
                    else:
                        self.assertIsNone(cell[4])

    def test_some_hand_can_go_on(self):
        for book, sheet, row, programs, dice in drawn_runs(500, 5):
            for standing, _ in standings_of_run(book, sheet, row, programs, dice):
                can = hands_that_can(book, standing)
                open_hands = [hand for hand, (left, tasks) in enumerate(standing[3]) if left or tasks]
                self.assertEqual(bool(can), bool(open_hands))
                if book[11] == "any":
                    self.assertEqual(can, open_hands)
                for hand in open_hands:
                    if hand not in can:
                        task = standing[3][hand][1][-1]
                        self.assertEqual(task[0], "look")
                        self.assertIn(standing[1][task[1] - sheet[0]][4], [one for one in open_hands if one != hand])

    def test_a_hand_looks_at_cells_ahead_of_those_that_it_holds(self):
        for book, sheet, row, programs, dice in drawn_runs(500, 6):
            for (values, cells, entered, hands), _ in standings_of_run(book, sheet, row, programs, dice):
                for left, tasks in hands:
                    own = [task[1] for task in tasks if task[0] != "spread"]
                    if tasks and tasks[0][0] != "write":
                        self.assertEqual(own, sorted(set(own), reverse=True))

    def test_entered_at_just_the_cells_of_the_record(self):
        for book, sheet, row, programs, dice in drawn_runs(600, 7):
            book = book_with(book, old="struck", hands="one")
            for (values, cells, entered, hands), _ in standings_of_run(book, sheet, row, programs, dice):
                for spot, (kept, mark, reads, again, holder) in enumerate(cells):
                    if kept is not None and holder is None:
                        found = [cell for cell, readers in enumerate(entered) if sheet[0] + spot in readers]
                        self.assertEqual(found, sorted({cell for cell, _ in reads}))

    def test_other_hands_have_the_same_left(self):
        for book, sheet, row, programs, dice in drawn_runs(300, 8):
            before = None
            for standing, hand in standings_of_run(book, sheet, row, programs, dice):
                if before is not None:
                    for other in range(len(programs)):
                        if other != hand:
                            self.assertEqual(standing[3][other], before[3][other])
                    self.assertNotEqual(standing[3][hand], before[3][hand])
                before = standing

    def test_steps_that_share_nothing_change_turns(self):
        # Two sheets in one: the even cells, and the odd ones; each hand has deeds of the cells of one of them.
        for number in range(200):
            dice = random.Random(90000 + number)
            formulas = [(cell - 2, tuple(dice.randrange(4) for _ in range(3))) for cell in range(2, 8)]
            sheet = (2, tuple(formulas))
            book = made_book(dice)
            programs = tuple(
                tuple(dice.choice((("set", half, dice.randrange(3)), ("look", half + 2 * dice.randrange(4))))
                      for _ in range(6)) for half in (0, 1))
            standing = start(sheet, (0, 0), programs)
            while not has_ended(standing):
                can = hands_that_can(book, standing)
                if can == [0, 1]:
                    self.assertEqual(after(book, sheet, standing, (0, 1)), after(book, sheet, standing, (1, 0)))
                    behind = step(book, sheet, standing, 0)
                    self.assertEqual(told(book, sheet, standing, 1), told(book, sheet, behind, 1))
                standing = step(book, sheet, standing, dice.choice(can))

    def test_looks_alone_keep_true_values(self):
        for book, sheet, row, programs, dice in drawn_runs(200, 9):
            programs = tuple(tuple(deed for deed in program if deed[0] == "look") for program in programs)
            for standing, _ in standings_of_run(book, sheet, row, programs, dice):
                for spot, (kept, mark) in enumerate(kept_cells(standing)):
                    if kept is not None:
                        self.assertEqual((kept, mark), (true_value(sheet, row, sheet[0] + spot), 0))


class MarksThatCanStand(unittest.TestCase):
    def test_no_other_mark_in_any_run(self):
        for book, sheet, row, programs, dice in drawn_runs(600, 10, 8):
            marks = (0,) + can_stand(book)
            for standing, _ in standings_of_run(book, sheet, row, programs, dice):
                for cell in standing[1]:
                    self.assertIn(cell[1], marks)

    def test_where_few_marks_can_stand(self):
        for words in (("none", "none", "none"), ("none", "none", "sure"), ("perhaps", "none", "none"),
                      ("none", "sure", "none"), ("sure", "sure", "none"), ("perhaps", "perhaps", "none")):
            for book, sheet, row, programs, dice in drawn_runs(80, 11, 8):
                book = words[:2] + book[2:6] + words[2:] + book[7:]
                marks = (0,) + can_stand(book)
                for standing, _ in standings_of_run(book, sheet, row, programs, dice):
                    self.assertLessEqual({cell[1] for cell in standing[1]}, set(marks))

    def test_each_mark_is_had_in_a_run_of_a_safe_book(self):
        deeds = (("look", 3), ("set", 0, 1), ("look", 1))
        safe = [book for book in some_books(1)[:-1] if safe_alone(book)]
        self.assertEqual(len(safe), 10272)
        for book in safe:
            found = set()
            standing = start(COPIES, (0,), (deeds,))
            while not has_ended(standing):
                standing = step(book, COPIES, standing, 0)
                found |= {cell[1] for cell in standing[1]}
            self.assertEqual(tuple(sorted(found - {0})), can_stand(book), book)

    def test_never_marks_nobody(self):
        for _, sheet, row, programs, dice in drawn_runs(60, 12):
            for standing, _ in standings_of_run(NEVER, sheet, row, programs, dice):
                self.assertEqual({cell[1] for cell in standing[1]}, {0})
