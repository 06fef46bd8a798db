"""A7 and A8: the texts of sheets."""

import ast
import re
import unittest

from keptmarks.errors import BadText
from keptmarks.sheets import sheet_error
from keptmarks.sheettexts import read_sheet, sheet_text
from tests.samples import (
    ODD_VALUES, SHEETS, TWO, check_calls, formula_of_deep, formula_of_parts, made_sheets, parts_with_ways,
    replaced_part,
)

TEXT = "inputs 1\nc1 = c0(1, 0)\nc2 = c1(2, c0(3, 1))"
EIGHT = "inputs 0\n" + "\n".join(f"c{cell} = {cell % 4}" for cell in range(8))


def slow_formula(text):
    """The formula of a text by way of how Python writes it; None if that leads to none."""
    python = re.sub(r"c(0|[1-9]\d?)\(", r"(\1, (", text).replace(")", ",))")
    try:
        return ast.literal_eval(python) if re.fullmatch(r"[0-9, ()]+", python) else None
    except (ValueError, SyntaxError, MemoryError, RecursionError):
        return None


def slow_told(value):
    """The sheet of which value is the text, or the number of the first wrong line."""
    lines = value.split("\n")
    if not re.fullmatch(r"inputs [0-3]", lines[0]):
        return 0
    inputs = int(lines[0][7])
    formulas = ()
    for number in range(1, 9):
        if number == len(lines):
            return 1 if number == 1 else (inputs, formulas)
        head = f"c{inputs + number - 1} = "
        formula = slow_formula(lines[number][len(head):])
        ahead = (0,) * (number - 1)
        if formula is None or not lines[number].startswith(head) or sheet_error((inputs, ahead + (formula,))):
            return number
        if head + written(formula) != lines[number]:
            return number
        formulas += (formula,)
    return (inputs, formulas) if len(lines) == 9 else 9


def written(formula):
    """The text of a formula, written part by part."""
    if type(formula) is int:
        return "0123"[formula]
    return "c" + str(formula[0]) + "(" + ", ".join(written(branch) for branch in formula[1]) + ")"


class Texts(unittest.TestCase):
    def wrong(self, value, line):
        with self.assertRaises(BadText) as caught:
            read_sheet(value)
        self.assertEqual(caught.exception.line, line, repr(value)[:200])
        self.assertIs(type(caught.exception.line), int)


class Examples(Texts):
    def test_texts(self):
        self.assertEqual(sheet_text(TWO), TEXT)
        self.assertEqual(sheet_text((0, (3,))), "inputs 0\nc0 = 3")
        self.assertEqual(read_sheet(sheet_text(TWO)), TWO)

    def test_wrong_ones(self):
        self.wrong("inputs 1", 1)
        self.wrong("inputs 1\nc1 = c0(1, 0)\nc3 = 0", 2)
        self.wrong("inputs 1\nc1 = c0(1,0)", 1)
        self.wrong("inputs 1\nc1 = 0\nc2 = c2(1)", 2)
        self.wrong("inputs 4\nc4 = 0", 0)
        self.wrong("inputs 0\nc0 = 0\n", 2)


class ThereAndBack(Texts):
    def test_sheets(self):
        for sheet in SHEETS + made_sheets(40, 3):
            text = sheet_text(sheet)
            self.assertEqual(repr(read_sheet(text)), repr(sheet))
            self.assertEqual(slow_told(text), sheet)

    def test_lines(self):
        for sheet in SHEETS:
            inputs, formulas = sheet
            lines = sheet_text(sheet).split("\n")
            self.assertEqual(lines[0], "inputs " + str(inputs))
            self.assertEqual(len(lines), len(formulas) + 1)
            for spot, formula in enumerate(formulas):
                self.assertEqual(lines[spot + 1], "c" + str(inputs + spot) + " = " + written(formula))

    def test_edges(self):
        for sheet in ((1, (formula_of_parts(0, 200),) * 8), (1, (formula_of_deep(0, 8),)), (0, (3,)), (3, (0,) * 8),
                      (3, (0,) * 7 + ((9, ((0, (1,)), (8, (2, 3)), 0, 1)),)), (0, (1, (0, (0, 1, 2, 3))))):
            self.assertIsNone(sheet_error(sheet))
            self.assertEqual(repr(read_sheet(sheet_text(sheet))), repr(sheet))
        self.assertEqual(read_sheet("inputs 3\nc3 = 0\nc4 = c3(c2(1), 2)"), (3, (0, (3, ((2, (1,)), 2)))))

    def test_unlike_sheets_have_unlike_texts(self):
        told = {}
        for sheet in SHEETS + made_sheets(200, 5):
            self.assertEqual(told.setdefault(sheet_text(sheet), sheet), sheet)
        self.assertGreater(len(told), 200)


class WrongTexts(Texts):
    def test_no_string(self):
        for value in ODD_VALUES + (b"inputs 0\nc0 = 3", [TEXT], (TEXT,), TWO, 0, 1):
            if type(value) is not str:
                self.wrong(value, 0)

    def test_odd_strings(self):
        for value in ODD_VALUES:
            if type(value) is str:
                self.wrong(value, 0)
        self.wrong("", 0)

    def test_line_0(self):
        for line in ("", "inputs", "inputs ", "inputs  1", " inputs 1", "inputs 1 ", "inputs\t1", "Inputs 1", "input 1",
                     "inputs 01", "inputs +1", "inputs -1", "inputs 4", "inputs 9", "inputs 10", "inputs 1.",
                     "inputs x", "inputs " + "1" * 5000, "inputs 1inputs 1", "1", "c1 = 0"):
            self.wrong(line + "\nc1 = 0", 0)
            self.wrong(line, 0)
            self.wrong(line + "\nc1 = 9\n", 0)

    def test_lines_of_cells(self):
        for line in ("", " ", "c1", "c1 =", "c1 = ", "c1=0", "c1 =0", "c1= 0", "c1  = 0", "c1 =  0", " c1 = 0",
                     "c1 = 0 ", "C1 = 0", "c01 = 0", "c+1 = 0", "c-1 = 0", "c0 = 0", "c2 = 0", "1 = 0", "x1 = 0",
                     "c1 = 00", "c1 = +0", "c1 = -1", "c1 = 4", "c1 = 9", "c1 = 10", "c1 = 0.", "c1 = 0,",
                     "c1 = (0)", "c1 = 0)",
                     "c1 = c0", "c1 = c0(", "c1 = c0()", "c1 = c0(0", "c1 = c0(0,", "c1 = c0(0, ", "c1 = c0(0, )",
                     "c1 = c0(, 0)", "c1 = c0(0))", "c1 = c0((0)", "c1 = c0(0) ", "c1 = c0( 0)", "c1 = c0(0 )",
                     "c1 = c0 (0)", "c1 = c0(0,1)", "c1 = c0(0,  1)", "c1 = c0(0 , 1)", "c1 = c0(0 1)", "c1 = c0(0;1)",
                     "c1 = c00(0)", "c1 = c+0(0)", "c1 = c-0(0)", "c1 = c(0)", "c1 = 0(0)", "c1 = C0(0)",
                     "c1 = c1(0)", "c1 = c2(0)", "c1 = c9(0)", "c1 = c0(0, 1, 2, 3, 0)", "c1 = c0(4)", "c1 = c0(1, 4)",
                     "c1 = c0(c1(0))", "c1 = c0(c0(0)", "c1 = c0(c0(0), c0())", "c1 = c0(None)", "c1 = None", "c1 = x",
                     "c1 = c0(0)c0(0)", "c1 = 0, 1", "c1 = c0(01)", "c1 = c0(0, 11)", "c1 = 0c1 = 0"):
            self.wrong("inputs 1\n" + line, 1)
            self.wrong("inputs 1\n" + line + "\nc2 = 0", 1)
            self.wrong("inputs 1\n" + line + "\nc9 = 0", 1)
            self.wrong("inputs 0\nc0 = 0\n" + line, 2)

    def test_numbers_with_thousands_of_figures(self):
        for many in (3, 100, 4000, 4301, 15000):
            for figure in "01":
                number = figure * many
                self.wrong("inputs 1\nc1 = " + number, 1)
                self.wrong("inputs 1\nc1 = c" + number + "(0)", 1)
                self.wrong("inputs 1\nc" + number + " = 0", 1)
                self.wrong("inputs " + number + "\nc1 = 0", 0)

    def test_thousands_of_signs_in_one_line(self):
        for sign in "()c0, =x-":
            for many in (1000, 19000):
                self.wrong("inputs 1\nc1 = " + sign * many, 1)
                self.wrong("inputs 1\nc1 = c0(" + sign * many, 1)
                self.wrong("inputs 1\nc1 = c0(1" + sign * many + ")", 1)
                self.wrong("inputs 1\nc1 = 1" + sign * many, 1)
                self.wrong("inputs 1\nc1" + sign * many + " = 1", 1)
                self.wrong("inputs 1" + sign * many + "\nc1 = 1", 0)
        for many in (9, 1000, 4900):
            self.wrong("inputs 1\nc1 = " + "c0(" * many, 1)
            self.wrong("inputs 1\nc1 = " + "c0(" * many + "1" + ")" * many, 1)
            self.wrong("inputs 1\nc1 = c0(" + "1, " * many + "1)", 1)

    def test_bounds_of_formulas(self):
        for formula in (formula_of_parts(0, 201), formula_of_parts(0, 300), formula_of_deep(0, 9), (0, (0,) * 5),
                        (1, (0,)), (2, (0,)), (0, (0, (1, (0,))))):
            self.wrong("inputs 1\nc1 = " + written(formula), 1)
            self.wrong("inputs 0\nc0 = 1\nc1 = " + written(formula) + "\nc2 = 0", 2)
        for formula in (formula_of_parts(0, 199), formula_of_parts(0, 200), formula_of_deep(0, 8), (0, (0,) * 4)):
            self.assertEqual(read_sheet("inputs 1\nc1 = " + written(formula)), (1, (formula,)))

    def test_cells_ahead_own_cell_and_beyond(self):
        for inputs in range(4):
            for spot in range(8):
                ahead = "".join(f"c{inputs + place} = 0\n" for place in range(spot))
                for other in range(inputs + spot + 3):
                    text = f"inputs {inputs}\n{ahead}c{inputs + spot} = c{other}(0, 1)"
                    if other < inputs + spot:
                        self.assertEqual(read_sheet(text), (inputs, (0,) * spot + ((other, (0, 1)),)))
                    else:
                        self.wrong(text, spot + 1)

    def test_lines_behind_the_eighth_formula(self):
        self.assertEqual(read_sheet(EIGHT), (0, (0, 1, 2, 3) * 2))
        for line in ("c8 = 0", "", "x", "c8 = c7(0)", "inputs 0"):
            self.wrong(EIGHT + "\n" + line, 9)
            self.wrong(EIGHT + "\n" + line + "\nc9 = 0", 9)
        self.wrong(EIGHT + "\nc8 = 0" * 400, 9)
        self.wrong(EIGHT[:-1] + "9\nc8 = 0", 8)

    def test_hundreds_of_lines(self):
        lines = [f"c{cell} = 0" for cell in range(900)]
        self.wrong("inputs 0\n" + "\n".join(lines), 9)
        self.wrong("inputs 0" + "\n" * 900, 1)
        self.wrong("inputs 0\nc0 = 0" + "\n" * 900, 2)
        self.wrong("\n" * 900, 0)

    def test_lines_left_out_twice_exchanged_and_empty(self):
        lines = EIGHT.split("\n")
        for place in range(9):
            left = lines[:place] + lines[place + 1:]
            if place < 8:
                self.wrong("\n".join(left), place)
            self.wrong("\n".join(lines[:place + 1] + lines[place:]), place + 1)
            self.wrong("\n".join(lines[:place] + [""] + lines[place:]), place)
            self.wrong("\n".join(lines[:place] + [""] + lines[place + 1:]), place)
            for other in range(place):
                changed = list(lines)
                changed[place], changed[other] = lines[other], lines[place]
                self.wrong("\n".join(changed), other)
        self.wrong(TEXT + "\n", 3)
        self.wrong(TEXT + "\n\n", 3)
        self.wrong("\n" + TEXT, 0)
        self.wrong(TEXT.replace("\n", "\r\n"), 0)

    def test_wrong_parts_of_large_formulas(self):
        formula = formula_of_parts(0, 150)
        for way, _ in parts_with_ways(formula)[::7]:
            for part in ("4", "c1(0)", "c0()", "", " 0", "c0(0, 0, 0, 0, 0)", "-", "c0"):
                marked = replaced_part(formula, way, (0, (3, 3, 3, 3)))
                text = written(marked).replace("c0(3, 3, 3, 3)", part)
                self.wrong("inputs 1\nc1 = " + text, 1)


class BesideASlowReading(Texts):
    def check(self, text):
        told = slow_told(text)
        if isinstance(told, int):
            self.wrong(text, told)
        else:
            self.assertEqual(repr(read_sheet(text)), repr(told))
            self.assertEqual(sheet_text(told), text)

    def test_one_sign_left_out_put_in_exchanged_or_doubled(self):
        texts = [sheet_text(sheet) for sheet in SHEETS if len(sheet_text(sheet)) < 120]
        self.assertGreater(len(texts), 10)
        for text in texts:
            for at in range(len(text) + 1):
                self.check(text[:at] + text[at + 1:])
                self.check(text[:at] + text[at:at + 1] * 2 + text[at + 1:])
                self.check(text[:at] + text[at + 1:at + 2] + text[at:at + 1] + text[at + 2:])
                for sign in "0145c(), =\ni-+_":
                    self.check(text[:at] + sign + text[at:])
                    self.check(text[:at] + sign + text[at + 1:])

    def test_cut_off(self):
        for sheet in SHEETS[:8]:
            text = sheet_text(sheet)
            for at in range(0, len(text), 1 + len(text) // 300):
                self.check(text[:at])
                self.check(text[at:])


class Calls(unittest.TestCase):
    def test_by_place_and_by_name(self):
        for sheet in SHEETS:
            check_calls(self, sheet_text, sheet=sheet)
            check_calls(self, read_sheet, value=sheet_text(sheet))
        for value in ODD_VALUES + ("inputs 0", EIGHT + "\n", TEXT + "\n"):
            check_calls(self, read_sheet, value=value)
