"""What the cells of a sheet truly have, what they read, and on what they rely."""

from keptmarks.bounds import MAX_VALUE


def true_value(sheet, row, cell):
    """Return the true value of a cell for a row."""
    return true_values(sheet, row)[cell]


def true_reads(sheet, row, cell):
    """Return the pairs (cell, value) that a cell's formula reads for a row, in order."""
    return reads_by_values(sheet, true_values(sheet, row), cell)


def relies(sheet, cell):
    """Return all cells, ascending, that a cell reads for some row, itself or through what it reads."""
    relied = set()
    for row in all_rows(sheet[0]):
        for other in relied_for_row(sheet, row, cell):
            relied.add(other)
    return tuple(sorted(relied))


def true_values(sheet, row):
    """Return the list of the true values of all cells for a row."""
    values = list(row)
    for formula in sheet[1]:
        # Formulas read cells ahead alone, so what they read is there by now.
        _, value = followed(formula, values)
        values.append(value)
    return values


def reads_by_values(sheet, values, cell):
    """Return the pairs that a cell's formula reads where the cells have these values."""
    inputs, formulas = sheet
    if cell < inputs:
        return ()
    reads, _ = followed(formulas[cell - inputs], values)
    return reads


def followed(formula, values):
    """Return the pairs that a formula reads where the cells have these values, and its own value."""
    reads = []
    while isinstance(formula, tuple):
        cell, branches = formula
        value = values[cell]
        reads.append((cell, value))
        formula = taken_branch(branches, value)
    return tuple(reads), formula


def taken_branch(branches, value):
    """Return the branch at which one goes on behind reading a value."""
    return branches[min(value, len(branches) - 1)]


def all_rows(inputs):
    """Return the list of all rows of so many inputs."""
    rows = [()]
    for _ in range(inputs):
        rows = [row + (value,) for row in rows for value in range(MAX_VALUE + 1)]
    return rows


def relied_for_row(sheet, row, cell):
    """Return the list of the cells that a cell reads for a row, itself or through what it reads."""
    values = true_values(sheet, row)
    relied = []
    waiting = [cell]
    while waiting:
        reads = reads_by_values(sheet, values, waiting.pop())
        for other, _ in reads:
            if other not in relied:
                relied.append(other)
                waiting.append(other)
    return relied
