"""What is a row of a sheet, what a program for it, and what one of its formulas' cells."""

from keptmarks.bounds import MAX_DEEDS, MAX_VALUE
from keptmarks.kinds import is_number_to


def is_row(sheet, value):
    """Return whether a value is a row of the sheet."""
    if not isinstance(value, tuple) or len(value) != sheet[0]:
        return False
    return all([is_number_to(item, MAX_VALUE) for item in value])


def is_program(sheet, value):
    """Return whether a value is a program for the sheet."""
    if not isinstance(value, tuple) or len(value) > MAX_DEEDS:
        return False
    return all([is_deed(sheet, item) for item in value])


def is_deed(sheet, value):
    """Return whether a value is a deed for the sheet."""
    if not isinstance(value, tuple):
        return False
    inputs, formulas = sheet
    if len(value) == 3 and value[0] == "set":
        return is_number_to(value[1], inputs - 1) and is_number_to(value[2], MAX_VALUE)
    if len(value) == 2 and value[0] == "look":
        return is_number_to(value[1], inputs + len(formulas) - 1)
    return False


def is_formula_cell(sheet, value):
    """Return whether a value is the number of a formula's cell of the sheet."""
    inputs, formulas = sheet
    return is_number_to(value, inputs + len(formulas) - 1) and value >= inputs
