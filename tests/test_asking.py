"""A6 and A8: true values, true reads, and on what a cell relies."""

import itertools
import unittest

from keptmarks.asking import relies, true_reads, true_value
from tests.samples import SHEETS, TWO, cells_of, check_calls, rows_of

# Cells with branches to which no row goes: directly, and through what they read.
NEVER_GONE_TO = [
    ((2, (0, (2, ((0, (1, 2)), (1, (0, 1)))))), 3, (0, 2)),
    ((2, (3, (2, ((0, (1, 2)), (1, (0, 1)))))), 3, (1, 2)),
    ((2, ((0, (0, 0)), (2, (0, (1, (0, 1)))))), 3, (0, 2)),
    ((2, ((0, (0, 1)), (0, ((2, (1, (1, (0, 1)))), 0)), (3, (0, 1)))), 4, (0, 2, 3)),
    ((2, ((0, (0, (1, (0, 1)))), (0, ((2, (0, 1)), 0)), (3, (0, 1)))), 4, (0, 2, 3)),
    ((3, ((0, (0, 1)), (3, (0, (3, ((1, (0, 1)), (2, (0, 1)))))), (4, (0, 1)))), 5, (0, 2, 3, 4)),
    ((1, (2, (1, ((0, (0, 1)), (0, (0, 1)), 3)))), 2, (1,)),
    ((2, (1, (0, ((1, (0, 1)),)), (2, ((3, (0, 1)), 0)))), 4, (2,)),
    ((0, (1, (0, (2, 3)), (1, (0, 0, 1, (0, (1,)))))), 2, (0, 1)),
]


def slow_walk(sheet, row, cell):
    """What a cell reads for a row, and its value, each cell reckoned anew each time."""
    inputs, formulas = sheet
    if cell < inputs:
        return [], row[cell]
    return slow_formula(sheet, row, formulas[cell - inputs])


def slow_formula(sheet, row, formula):
    if type(formula) is int:
        return [], formula
    cell, branches = formula
    value = slow_walk(sheet, row, cell)[1]
    branch = branches[value] if value < len(branches) else branches[len(branches) - 1]
    reads, result = slow_formula(sheet, row, branch)
    return [(cell, value)] + reads, result


def slow_relies(sheet, cell):
    found = set()
    for row in rows_of(sheet):
        new = {read for read, _ in slow_walk(sheet, row, cell)[0]}
        seen = set()
        while new - seen:
            seen |= new
            new = {read for other in seen for read, _ in slow_walk(sheet, row, other)[0]}
        found |= seen
    return tuple(sorted(found))


class Examples(unittest.TestCase):
    def test_true_value(self):
        told = [[true_value(TWO, (v,), cell) for cell in (0, 1, 2)] for v in (0, 1, 2, 3)]
        self.assertEqual(told, [[0, 1, 3], [1, 0, 2], [2, 0, 2], [3, 0, 2]])

    def test_true_reads(self):
        self.assertEqual(true_reads(TWO, (0,), 2), ((1, 1), (0, 0)))
        self.assertEqual(true_reads(TWO, (3,), 2), ((1, 0),))
        self.assertEqual(true_reads(TWO, (3,), 1), ((0, 3),))
        self.assertEqual(true_reads(TWO, (3,), 0), ())

    def test_relies(self):
        self.assertEqual([relies(TWO, 2), relies(TWO, 1), relies(TWO, 0)], [(0, 1), (0,), ()])
        self.assertEqual(relies((2, (0, (2, ((0, (1, 2)), (1, (0, 1)))))), 3), (0, 2))

    def test_read_twice(self):
        sheet = (1, ((0, (0, (0, (2, 3)))),))
        self.assertEqual(true_reads(sheet, (1,), 1), ((0, 1), (0, 1)))
        self.assertEqual(true_value(sheet, (1,), 1), 3)


class Edges(unittest.TestCase):
    def test_inputs(self):
        sheet = (3, (2, (1, (0, 1))))
        for row in rows_of(sheet):
            for cell in range(3):
                self.assertEqual(true_value(sheet, row, cell), row[cell])
                self.assertEqual(true_reads(sheet, row, cell), ())
                self.assertEqual(relies(sheet, cell), ())

    def test_formulas_that_are_values(self):
        for value in range(4):
            sheet = (1, (value, 3 - value))
            for row in rows_of(sheet):
                self.assertEqual([true_value(sheet, row, cell) for cell in (1, 2)], [value, 3 - value])
                self.assertEqual([true_reads(sheet, row, cell) for cell in (1, 2)], [(), ()])
            self.assertEqual(relies(sheet, 2), ())

    def test_no_inputs(self):
        sheet = (0, (1, (0, (2, 3)), (1, (0, 0, 1, 2))))
        self.assertEqual([true_value(sheet, (), cell) for cell in range(3)], [1, 3, 2])
        self.assertEqual(true_reads(sheet, (), 2), ((1, 3),))
        self.assertEqual(relies(sheet, 2), (0, 1))

    def test_last_branch_where_there_are_fewer_than_values(self):
        for many in range(1, 5):
            sheet = (1, ((0, (3, 1, 2, 0)[:many]),))
            told = [true_value(sheet, (value,), 1) for value in range(4)]
            self.assertEqual(told, [(3, 1, 2, 0)[min(value, many - 1)] for value in range(4)])

    def test_read_twice_with_others_between(self):
        sheet = (2, ((0, ((1, ((0, ((1, (2, 3)),)),)),)),))
        self.assertEqual(true_reads(sheet, (3, 1), 2), ((0, 3), (1, 1), (0, 3), (1, 1)))
        self.assertEqual(true_value(sheet, (3, 1), 2), 3)

    def test_branches_that_no_row_goes_to(self):
        for sheet, cell, relied in NEVER_GONE_TO:
            self.assertEqual(relies(sheet, cell), relied)
            self.assertEqual(slow_relies(sheet, cell), relied)

    def test_relies_for_one_row_and_another(self):
        sheet = (3, ((0, (0, 1)), (3, ((1, (0, 1)), (2, (0, 1))))))
        self.assertEqual(relies(sheet, 4), (0, 1, 2, 3))


class BesideASlowReckoning(unittest.TestCase):
    def test_values_and_reads(self):
        for sheet in SHEETS:
            for row in rows_of(sheet):
                for cell in cells_of(sheet):
                    reads, value = slow_walk(sheet, row, cell)
                    self.assertEqual(true_value(sheet, row, cell), value)
                    self.assertEqual(true_reads(sheet, row, cell), tuple(reads))

    def test_relies(self):
        for sheet in SHEETS:
            for cell in cells_of(sheet):
                self.assertEqual(relies(sheet, cell), slow_relies(sheet, cell))


class WhatHolds(unittest.TestCase):
    def test_alike_at_all_on_which_a_cell_relies(self):
        for sheet in SHEETS:
            for cell in cells_of(sheet):
                asked = [x for x in (*relies(sheet, cell), cell) if x < sheet[0]]
                told = {}
                for row in rows_of(sheet):
                    found = (true_value(sheet, row, cell), true_reads(sheet, row, cell))
                    self.assertEqual(told.setdefault(tuple(row[x] for x in asked), found), found)

    def test_the_same_reads_lead_to_the_same_value(self):
        for sheet in SHEETS:
            for cell in cells_of(sheet):
                for one, other in itertools.product(rows_of(sheet)[::3], rows_of(sheet)[::5]):
                    reads = true_reads(sheet, one, cell)
                    if reads and all(true_value(sheet, other, read) == value for read, value in reads):
                        self.assertEqual(true_reads(sheet, other, cell), reads)
                        self.assertEqual(true_value(sheet, other, cell), true_value(sheet, one, cell))

    def test_cells_ahead_alone(self):
        for sheet in SHEETS:
            for cell in cells_of(sheet):
                relied = relies(sheet, cell)
                self.assertTrue(all(other in range(cell) for other in relied))
                self.assertEqual(list(relied), sorted(set(relied)))


class Calls(unittest.TestCase):
    def test_by_place_and_by_name(self):
        for sheet in SHEETS[:8]:
            for cell in cells_of(sheet):
                check_calls(self, relies, sheet=sheet, cell=cell)
                for row in rows_of(sheet)[::7]:
                    check_calls(self, true_value, sheet=sheet, row=row, cell=cell)
                    check_calls(self, true_reads, sheet=sheet, row=row, cell=cell)

    def test_kinds_of_what_is_told(self):
        self.assertIs(type(true_value(TWO, (0,), 2)), int)
        self.assertEqual([type(read) for read in true_reads(TWO, (0,), 2)], [tuple, tuple])
        self.assertIs(type(relies(TWO, 2)), tuple)
