"""Cells that keep an old value amid a run, and those to which a spreading will come."""

from keptmarks.asking import true_values
from keptmarks.books import READERS, WRITE
from keptmarks.tasks import PHASES, spreading, step_of_spread


def wrong_cells(sheet, standing):
    """Return all cells, ascending, that are clean, held by nobody, and keep another value than the true one."""
    values, cells = standing[:2]
    true = true_values(sheet, values)
    wrong = []
    for spot, (kept, mark, _, _, holder) in enumerate(cells):
        cell = len(values) + spot
        if kept is not None and mark == 0 and holder is None and kept != true[cell]:
            wrong.append(cell)
    return tuple(wrong)


def awaited_cells(book, sheet, standing):
    """Return all cells, ascending, to which some spreading comes that is under way or still to come."""
    awaited = set()
    for task in spreadings(book, standing):
        for cell in come_to(book, sheet, standing, task):
            awaited.add(cell)
    return tuple(sorted(awaited))


def lost_cells(book, sheet, standing):
    """Return all cells, ascending, that are wrong and not awaited."""
    awaited = awaited_cells(book, sheet, standing)
    return tuple([cell for cell in wrong_cells(sheet, standing) if cell not in awaited])


def spreadings(book, standing):
    """Return the list of the spreadings that are under way, and of those still to come, as they begin."""
    found = []
    for _, tasks in standing[3]:
        for task in tasks:
            if task[0] == "spread":
                found.append(task)
            elif task[0] == "write":
                phases = PHASES[book[WRITE]]
                if "spread" in phases[task[3]:]:
                    found.append(spreading(task[1], book[READERS]))
    return found


def come_to(book, sheet, standing, task):
    """Return the list of the cells that a spreading gives a mark if nothing else is done."""
    shared = standing[:3]
    given = []
    tasks = (task,)
    while tasks:
        marking = tasks[0][2]
        if marking:
            given.append(marking[0][0])
        shared, tasks, _ = step_of_spread(book, sheet, shared, None, (), tasks[0])
    return given
