"""C1, C2, C3 and C5: standings, tasks, and what is asked of a standing."""

import random
import unittest

from keptmarks.standings import can_step, has_ended, kept_cells, start
from keptmarks.steps import after, step
from tests.samples import (
    COPIES, COPY, NEVER, PAIR, REWORK, SHEETS, SIGNALS, TRACED, VALUES, book_with, check_calls, made_book, made_deeds,
    made_row, made_small_sheet, rows_of, with_item,
)

FIRST = start(PAIR, (0,), ((("look", 2),), (("set", 0, 1),)))

EMPTY = (None, 0, (), False, None)


def kinds(value):
    """A value with its kind, and that of each of its items, as True is 1 for Python."""
    if type(value) is tuple:
        return tuple, tuple(kinds(item) for item in value)
    return type(value), value


class Start(unittest.TestCase):
    def test_example(self):
        self.assertEqual(FIRST, (
            (0,), ((None, 0, (), False, None), (None, 0, (), False, None)), ((), (), ()),
            (((("look", 2),), ()), ((("set", 0, 1),), ()))))

    def test_one_hand_two_and_three(self):
        look, write = (("look", 2), ("look", 0)), (("set", 0, 1), ("set", 0, 3), ("look", 1))
        for programs in ((look,), (write,), (look, write), (write, look), (look, look, write), (write, write, look)):
            self.assertEqual(
                start(PAIR, (2,), programs),
                ((2,), (EMPTY, EMPTY), ((), (), ()), tuple((program, ()) for program in programs)))

    def test_programs_that_are_empty(self):
        for programs in (((),), ((), ()), ((), (), ()), ((), (("look", 1),), ())):
            self.assertEqual(
                start(COPY, (3,), programs),
                ((3,), (EMPTY,), ((), ()), tuple((program, ()) for program in programs)))

    def test_sheets_and_rows(self):
        for sheet in SHEETS:
            inputs, formulas = sheet
            for row in rows_of(sheet)[::5]:
                program = made_deeds(random.Random(inputs), sheet, 200)
                expected = (row, (EMPTY,) * len(formulas), ((),) * (inputs + len(formulas)), ((program, ()),))
                self.assertEqual(kinds(start(sheet, row, (program,))), kinds(expected))


class Ended(unittest.TestCase):
    def test_example(self):
        self.assertIs(has_ended(FIRST), False)
        self.assertIs(has_ended(start(PAIR, (1,), ((),))), True)

    def test_first_standings(self):
        deed = (("set", 0, 0),)
        for programs, ended in (
                (((),), True), (((), ()), True), (((), (), ()), True), ((deed,), False), (((), deed), False),
                ((deed, ()), False), (((), (), deed), False), ((deed, deed, deed), False)):
            self.assertIs(has_ended(start(COPY, (0,), programs)), ended)

    def test_only_behind_the_last_step(self):
        for order, last in (((0,) * 12 + (1,) * 8, 20), ((1,) * 4 + (0,) * 12, 16)):
            standing = FIRST
            for done, hand in enumerate(order):
                self.assertIs(has_ended(standing), False, done)
                standing = step(SIGNALS, PAIR, standing, hand)
            self.assertIs(has_ended(standing), True)
            self.assertEqual(len(order), last)

    def test_a_task_is_left_where_no_deed_is(self):
        standing = after(VALUES, COPY, start(COPY, (0,), ((("set", 0, 1),),)), (0,))
        self.assertEqual(standing[3], (((), (("write", 0, 1, 0),)),))
        self.assertIs(has_ended(standing), False)


class CanStep(unittest.TestCase):
    def test_example(self):
        self.assertEqual([can_step(SIGNALS, FIRST, hand) for hand in (0, 1)], [True, True])

    def test_first_standings(self):
        standing = start(COPY, (0,), ((), (("look", 1),), (("set", 0, 0),)))
        for book in (VALUES, SIGNALS, NEVER):
            self.assertEqual([can_step(book, standing, hand) for hand in (0, 1, 2)], [False, True, True])

    def test_a_hand_that_has_ended(self):
        for book in (VALUES, REWORK, NEVER, TRACED):
            standing = FIRST
            while can_step(book, standing, 0):
                standing = step(book, PAIR, standing, 0)
            self.assertEqual(standing[3][0], ((), ()))
            self.assertIs(can_step(book, standing, 0), False)
            self.assertIs(can_step(book, standing, 1), True)

    def test_a_hand_that_waits_until_the_other_lets_go(self):
        standing = start(COPY, (0,), ((("look", 1),), (("look", 1),)))
        standing = after(VALUES, COPY, standing, (0, 1))
        self.assertEqual([can_step(VALUES, standing, hand) for hand in (0, 1)], [True, True])
        standing = step(VALUES, COPY, standing, 0)
        for done in range(5):
            self.assertEqual(standing[1][0][4], 0)
            self.assertEqual([can_step(VALUES, standing, hand) for hand in (0, 1)], [True, False], done)
            standing = step(VALUES, COPY, standing, 0)
        self.assertIsNone(standing[1][0][4])
        self.assertEqual([can_step(VALUES, standing, hand) for hand in (0, 1)], [False, True])

    def test_a_deed_begins_while_its_cell_is_held(self):
        standing = after(VALUES, COPY, start(COPY, (0,), ((("look", 1),), (("look", 1),))), (0, 0))
        self.assertEqual(standing[1][0][4], 0)
        self.assertIs(can_step(VALUES, standing, 1), True)
        self.assertIs(can_step(VALUES, step(VALUES, COPY, standing, 1), 1), False)

    def test_a_look_at_an_input_never_waits(self):
        programs = ((("look", 1),), (("look", 0),), (("set", 0, 1),))
        standing = after(VALUES, COPY, start(COPY, (0,), programs), (0, 0, 1, 2))
        self.assertEqual([can_step(VALUES, standing, hand) for hand in (0, 1, 2)], [True, True, True])

    def test_a_look_within_a_look_waits_too(self):
        programs = ((("look", 1),), (("look", 2),))
        standing = after(VALUES, PAIR, start(PAIR, (0,), programs), (0, 0, 1, 1, 1, 1))
        self.assertEqual(standing[3][1][1][-1], ("look", 1))
        self.assertEqual([can_step(VALUES, standing, hand) for hand in (0, 1)], [True, False])

    def test_with_any_no_hand_waits(self):
        book = book_with(VALUES, hands="any")
        standing = start(COPY, (0,), ((("look", 1),), (("look", 1),), (("look", 1),)))
        for hand in (0, 1, 2, 0, 1, 2):
            self.assertEqual([can_step(book, standing, other) for other in (0, 1, 2)], [True, True, True])
            standing = step(book, COPY, standing, hand)
        self.assertIsNone(standing[1][0][4])
        self.assertEqual([can_step(book, standing, other) for other in (0, 1, 2)], [True, True, True])

    def test_cells_held_by_itself_by_another_one_and_by_nobody(self):
        for holder in (None, 0, 1, 2):
            for hand in (0, 1, 2):
                hands = tuple(((), (("look", 1),)) for _ in range(3))
                standing = ((0,), (with_item(EMPTY, 4, holder),), ((), ()), hands)
                self.assertIs(can_step(VALUES, standing, hand), holder in (None, hand))
                self.assertIs(can_step(book_with(VALUES, hands="any"), standing, hand), True)

    def test_only_a_look_waits(self):
        held = with_item(EMPTY, 4, 1)
        for task in (("write", 0, 1, 0), ("spread", ((0, 1),), ()), ("check", 1, ((0, 0),), 0),
                     ("compare", 1, ((0, 0),), 0, 0), ("work", 1, 0, ()), ("ask", 1, (0, (0, 1)), ()),
                     ("enter", 1, (0, (0, 1)), (), 0), ("end", 1)):
            standing = ((0,), (held,), ((), ()), (((), (task,)), ((), ())))
            self.assertIs(can_step(VALUES, standing, 0), True, task)


class KeptCells(unittest.TestCase):
    def test_example(self):
        self.assertEqual(kept_cells(FIRST), ((None, 0), (None, 0)))

    def test_amid_a_run_and_behind_it(self):
        standing = start(COPIES, (3,), ((("look", 3), ("set", 0, 1), ("look", 2)),))
        told = []
        while not has_ended(standing):
            standing = step(VALUES, COPIES, standing, 0)
            if not told or told[-1] != kept_cells(standing):
                told.append(kept_cells(standing))
        self.assertEqual(told, [
            ((None, 0), (None, 0), (None, 0)), ((3, 0), (None, 0), (None, 0)), ((3, 0), (3, 0), (None, 0)),
            ((3, 0), (3, 0), (3, 0)), ((3, 1), (3, 0), (3, 0)), ((3, 1), (3, 1), (3, 0)), ((3, 1), (3, 1), (3, 1)),
            ((3, 1), (3, 0), (3, 1)), ((3, 0), (3, 0), (3, 1)), ((1, 0), (3, 0), (3, 1)), ((1, 0), (1, 0), (3, 1))])

    def test_it_is_what_the_standing_has(self):
        for seed in range(40):
            dice = random.Random(seed)
            sheet = made_small_sheet(dice)
            book = made_book(dice)
            standing = start(sheet, made_row(dice, sheet), (made_deeds(dice, sheet, 8),))
            while not has_ended(standing):
                self.assertEqual(kept_cells(standing), tuple((cell[0], cell[1]) for cell in standing[1]))
                standing = step(book, sheet, standing, 0)


def is_reads(sheet, reads):
    """Whether this is a tuple of pairs of a cell and a value."""
    cells = range(sheet[0] + len(sheet[1]))
    return type(reads) is tuple and all(
        type(pair) is tuple and len(pair) == 2 and pair[0] in cells and pair[1] in range(4) for pair in reads)


def parts_of(formula):
    yield formula
    if type(formula) is tuple:
        for branch in formula[1]:
            yield from parts_of(branch)


def is_task(sheet, task):
    """Whether this is one of the tasks of C3."""
    word, *rest = task
    inputs, formulas = sheet
    if word == "write":
        return len(rest) == 3 and rest[0] in range(inputs) and rest[1] in range(4) and rest[2] in range(3)
    if word == "spread":
        return len(rest) == 2 and all(pair[1] in (0, 1, 2) for some in rest for pair in some)
    if word == "look":
        return len(rest) == 1 and rest[0] in range(inputs + len(formulas))
    if rest[0] not in range(inputs, inputs + len(formulas)):
        return False
    if word == "check":
        return len(rest) == 3 and is_reads(sheet, rest[1]) and rest[2] in range(len(rest[1]))
    if word == "compare":
        return (len(rest) == 4 and is_reads(sheet, rest[1]) and rest[2] in range(len(rest[1]))
                and rest[3] in range(4))
    if word in ("work", "ask", "enter"):
        fits = len(rest) == (4 if word == "enter" else 3) and is_reads(sheet, rest[2])
        return fits and rest[1] in list(parts_of(formulas[rest[0] - inputs])) and (
            word == "work" or type(rest[1]) is tuple)
    return word == "end" and len(rest) == 1


class Forms(unittest.TestCase):
    def test_standings_and_tasks_in_drawn_runs(self):
        words = set()
        for seed in range(150):
            dice = random.Random(seed)
            sheet = made_small_sheet(dice)
            inputs, formulas = sheet
            book = made_book(dice)
            programs = tuple(made_deeds(dice, sheet, 6) for _ in range(dice.randrange(1, 4)))
            standing = start(sheet, made_row(dice, sheet), programs)
            while not has_ended(standing):
                values, cells, entered, hands = standing
                self.assertEqual([len(values), len(cells)], [inputs, len(formulas)])
                self.assertEqual([len(entered), len(hands)], [inputs + len(formulas), len(programs)])
                for kept, mark, reads, again, holder in cells:
                    self.assertIn(kept, (None, 0, 1, 2, 3))
                    self.assertIn(mark, (0, 1, 2))
                    self.assertTrue(is_reads(sheet, reads))
                    self.assertIs(type(again), bool)
                    self.assertIn(holder, (None,) if book[11] == "any" else (None, *range(len(programs))))
                for readers in entered:
                    self.assertEqual(readers, tuple(sorted(set(readers))))
                for (left, tasks), program in zip(hands, programs):
                    self.assertEqual(left, program[len(program) - len(left):])
                    for task in tasks:
                        self.assertTrue(is_task(sheet, task), task)
                        words.add(task[0])
                hand = dice.choice([hand for hand in range(len(hands)) if can_step(book, standing, hand)])
                standing = step(book, sheet, standing, hand)
        self.assertEqual(words, {"write", "spread", "look", "check", "compare", "work", "ask", "enter", "end"})


class Calls(unittest.TestCase):
    def test_by_place_and_by_name(self):
        programs = ((("look", 2), ("set", 0, 1)), (("look", 1),))
        check_calls(self, start, sheet=PAIR, row=(0,), programs=programs)
        standing = start(PAIR, (0,), programs)
        for hand in (0, 0, 0, 1, 0, 0, 0, 0):
            standing = step(VALUES, PAIR, standing, hand)
            check_calls(self, has_ended, standing=standing)
            check_calls(self, kept_cells, standing=standing)
            for other in (0, 1):
                check_calls(self, can_step, book=VALUES, standing=standing, hand=other)
