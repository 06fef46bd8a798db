"""A5: what is a sheet, and the first error of what is none."""

import random
import unittest

from keptmarks.sheets import sheet_error
from tests.samples import (
    ODD_VALUES, SHEETS, TWO, check_calls, formula_of_deep, formula_of_parts, parts_with_ways, replaced_part,
)


def is_int(value):
    return type(value) is int


def slow_word(part, cell, deep, ahead):
    """The word of a part, by the words of the document."""
    if ahead >= 200:
        return "parts"
    pair = type(part) is tuple and len(part) == 2 and type(part[1]) is tuple
    if not is_int(part) and not pair:
        return "form"
    if is_int(part):
        return None if part in range(4) else "value"
    if not is_int(part[0]) or part[0] not in range(cell):
        return "cell"
    if len(part[1]) not in (1, 2, 3, 4):
        return "branches"
    return "deep" if deep == 8 else None


def slow_formula_error(part, cell, way, count):
    """The first wrong part, one part gone to behind another; count is a list of one number."""
    word = slow_word(part, cell, len(way), count[0])
    count[0] += 1
    if word is not None:
        return ("formula", cell, way, word)
    if type(part) is tuple:
        for place, branch in enumerate(part[1]):
            error = slow_formula_error(branch, cell, way + (place,), count)
            if error is not None:
                return error
    return None


def in_cell_2(formula):
    """A sheet in which the cell 2 has this formula, behind an input and a formula cell."""
    return (1, (0, formula))


class Examples(unittest.TestCase):
    def test_form_inputs_many(self):
        values = (TWO, (0, (3,)), [1, (0,)], (1, [0]), (4, (0,)), (True, (0,)), (1, ()), (1, (0,) * 9))
        self.assertEqual(
            [sheet_error(value) for value in values],
            [None, None, "form", "form", "inputs", "inputs", "many", "many"])

    def test_words_of_a_part(self):
        formulas = (4, True, None, (0, [1]), (2, (0,)), (True, (0,)), (0, ()), (0, (1, 2, 3, 0, 1)))
        words = ["value", "form", "form", "form", "cell", "cell", "branches", "branches"]
        self.assertEqual(
            [sheet_error((1, (0, formula))) for formula in formulas],
            [("formula", 2, (), word) for word in words])

    def test_ways(self):
        values = ((1, (0, (0, (1, (0, (2, 7)))))), (1, (0, (0, (5, None)))), (1, ((1, (0,)), 9)), (0, ((0, (1,)),)))
        self.assertEqual([sheet_error(value) for value in values], [
            ("formula", 2, (1, 1), "value"), ("formula", 2, (0,), "value"), ("formula", 1, (), "cell"),
            ("formula", 0, (), "cell")])

    def test_deep(self):
        deep = (0, ((0, ((0, ((0, ((0, ((0, ((0, ((0, ((0, (0,)),)),)),)),)),)),)),)),))
        self.assertEqual(sheet_error((1, (deep,))), ("formula", 1, (0, 0, 0, 0, 0, 0, 0, 0), "deep"))
        self.assertIsNone(sheet_error((1, (deep[1][0],))))


class Form(unittest.TestCase):
    def test_sheets(self):
        for sheet in SHEETS:
            self.assertIsNone(sheet_error(sheet))

    def test_values_of_all_kinds(self):
        for value in ODD_VALUES:
            told = "inputs" if value == ((), ()) else "form"
            self.assertEqual(sheet_error(value), told)

    def test_no_pair_with_a_tuple(self):
        for value in ((1,), (1, (0,), 0), [1, (0,)], (1, [0]), (1, 0), (1, True), (1, None), (1, "0"), (1, {0: 0}),
                      ((0,), 1), {1: (0,)}, "10"):
            self.assertEqual(sheet_error(value), "form")

    def test_form_ahead_of_inputs(self):
        for value in ((4, [0]), (True, None), (-1, [0] * 9), ("", "")):
            self.assertEqual(sheet_error(value), "form")

    def test_inputs(self):
        for inputs in (-1, 4, 10 ** 399, -10 ** 399, True, False, None, "1", (1,), [1], {}):
            self.assertEqual(sheet_error((inputs, (0,))), "inputs")
        for inputs in (0, 1, 2, 3):
            self.assertIsNone(sheet_error((inputs, (0,))))

    def test_inputs_ahead_of_many(self):
        for formulas in ((), (0,) * 9, (None,)):
            self.assertEqual(sheet_error((4, formulas)), "inputs")
            self.assertEqual(sheet_error((False, formulas)), "inputs")

    def test_many(self):
        told = {0: "many", 1: None, 2: None, 7: None, 8: None, 9: "many", 10: "many", 3000: "many"}
        for many, word in told.items():
            self.assertEqual(sheet_error((2, (0,) * many)), word)

    def test_many_ahead_of_formulas(self):
        self.assertEqual(sheet_error((2, (None,) * 9)), "many")
        self.assertEqual(sheet_error((2, (None,) * 8)), ("formula", 2, (), "form"))


class Parts(unittest.TestCase):
    def told(self, formula, way, word):
        self.assertEqual(sheet_error(in_cell_2(formula)), ("formula", 2, way, word))

    def right(self, formula):
        self.assertIsNone(sheet_error(in_cell_2(formula)))

    def test_form(self):
        for part in ODD_VALUES:
            if type(part) is int:
                self.told(part, (), "value")
            elif part == ((), ()):
                self.told(part, (), "cell")
            else:
                self.told(part, (), "form")
        for part in ((0,), (0, (1,), 1), [0, (1,)], (0, [1]), (0, 1), (0, True), (0, None), [0], [], "0", {0: (1,)}):
            self.told(part, (), "form")
            self.told((1, (0, part)), (1,), "form")

    def test_value(self):
        for value in (0, 1, 2, 3):
            self.right(value)
            self.right((0, (1, value)))
        for value in (-1, 4, 5, 10 ** 399, -10 ** 399):
            self.told(value, (), "value")
            self.told((0, (1, value)), (1,), "value")

    def test_bools(self):
        for value in (True, False):
            self.told(value, (), "form")
            self.told((0, (1, value)), (1,), "form")
            self.told((value, (0,)), (), "cell")
            self.told((0, ((value, (0,)),)), (0,), "cell")

    def test_cell(self):
        for cell in (0, 1):
            self.right((cell, (0,)))
        for cell in (-1, 2, 3, 10 ** 399, -10 ** 399, None, "0", (0,), [0], {}, (), True):
            self.told((cell, (0,)), (), "cell")
            self.told((0, (1, (cell, (0,)))), (1,), "cell")

    def test_cells_ahead_own_cell_and_beyond(self):
        for inputs in range(4):
            for spot in range(8):
                for other in range(inputs + spot + 2):
                    told = None if other < inputs + spot else ("formula", inputs + spot, (), "cell")
                    self.assertEqual(sheet_error((inputs, (0,) * spot + ((other, (0,)),))), told)

    def test_branches(self):
        for many in range(1, 5):
            self.right((0, (1,) * many))
        for many in (0, 5, 6, 3000):
            self.told((0, (1,) * many), (), "branches")
            self.told((0, (2, (1, (1,) * many))), (1,), "branches")

    def test_deep(self):
        for deep in range(12):
            formula = formula_of_deep(0, deep)
            if deep <= 8:
                self.right(formula)
            else:
                self.told(formula, (1,) * 8, "deep")

    def test_parts(self):
        for parts in (1, 2, 199, 200):
            self.assertEqual(len(parts_with_ways(formula_of_parts(1, parts))), parts)
            self.right(formula_of_parts(1, parts))
        for parts in (201, 202, 230):
            formula = formula_of_parts(1, parts)
            self.told(formula, parts_with_ways(formula)[200][0], "parts")

    def test_parts_of_each_formula_count_alone(self):
        self.assertIsNone(sheet_error((1, (formula_of_parts(0, 200),) * 8)))

    def test_two_words_at_one_part(self):
        self.told((7, [0]), (), "form")
        self.told((True, ()), (), "cell")
        self.told((2, (0,) * 5), (), "cell")
        self.told((0, (None,) * 5), (), "branches")
        base = formula_of_deep(0, 8)
        for part, word in (((2, (0,)), "cell"), ((0, ()), "branches"), ((2, ()), "cell"), ((0, (9,)), "deep"),
                           ((0, [1]), "form"), ((9, [1]), "form"), (4, "value"), (True, "form")):
            self.told(replaced_part(base, (1,) * 8, part), (1,) * 8, word)

    def test_parts_ahead_of_all_other_words(self):
        formula = formula_of_parts(1, 201)
        way, part = parts_with_ways(formula)[200]
        for wrong in (None, True, 4, (5, (0,)), (0, ()), (0, [1]), part):
            self.told(replaced_part(formula, way, wrong), way, "parts")
        way = parts_with_ways(formula)[199][0]
        for wrong, word in ((None, "form"), (4, "value"), ((5, (0,)), "cell"), ((0, ()), "branches")):
            self.told(replaced_part(formula, way, wrong), way, word)

    def test_parts_and_deep_at_one_part(self):
        for parts, ahead, word in ((36, 200, "parts"), (35, 199, "deep")):
            formula = replaced_part(formula_of_deep(0, 8), (0,), formula_of_parts(1, 150))
            formula = replaced_part(formula, (1, 0), formula_of_parts(1, parts))
            ways = [way for way, _ in parts_with_ways(formula)]
            self.assertEqual(ways.index((1,) * 8), ahead)
            self.told(replaced_part(formula, (1,) * 8, (0, (1,))), (1,) * 8, word)

    def test_first_of_two_wrong_formulas(self):
        self.assertEqual(sheet_error((1, (0, 9, None))), ("formula", 2, (), "value"))
        self.assertEqual(sheet_error((1, (0, None, 9))), ("formula", 2, (), "form"))
        self.assertEqual(sheet_error((2, (0, (0, (1, (1, (4,)))), True))), ("formula", 3, (1, 0), "value"))

    def test_first_of_two_wrong_parts(self):
        self.told((0, (7, None)), (0,), "value")
        self.told((0, (None, 7)), (0,), "form")
        self.told((2, (None, 7)), (), "cell")
        self.told((0, ((0, (0, (1, (0, 9)))), None)), (0, 1, 1), "value")
        self.told((0, (1, (0, (9,)), True)), (1, 0), "value")
        self.told((0, (1, (5, (9,)), True)), (1,), "cell")


class BesideASlowCheck(unittest.TestCase):
    WRONG = (None, True, False, 4, -1, (0,), (0, [0]), [0, (0,)], (7, (0,)), (11, (0,)), (0, ()), (0, (0,) * 5),
             formula_of_deep(0, 9), formula_of_parts(0, 201), (True, (0,)), (0, (9, None)))

    def test_wrong_parts_in_made_sheets(self):
        dice = random.Random(11)
        told = {}
        for sheet in SHEETS * 12:
            inputs, formulas = sheet
            changed = list(formulas)
            for _ in range(dice.randrange(1, 4)):
                spot = dice.randrange(len(changed))
                ways = [way for way, _ in parts_with_ways(formulas[spot])]
                changed[spot] = replaced_part(formulas[spot], dice.choice(ways), dice.choice(self.WRONG))
            slow = None
            for spot, formula in enumerate(changed):
                slow = slow or slow_formula_error(formula, inputs + spot, (), [0])
            self.assertEqual(sheet_error((inputs, tuple(changed))), slow)
            told[slow and slow[3]] = True
        self.assertEqual(set(told) - {None}, {"parts", "form", "value", "cell", "branches", "deep"})


class Calls(unittest.TestCase):
    def test_by_place_and_by_name(self):
        for value in ODD_VALUES + (TWO, (1, [0]), (4, (0,)), (1, ()), (1, (0, (0, (5, None))))):
            check_calls(self, sheet_error, value=value)

    def test_kinds_of_what_is_told(self):
        error = sheet_error((1, (0, (0, (1, 9)))))
        self.assertEqual([type(item) for item in error], [str, int, tuple, str])
