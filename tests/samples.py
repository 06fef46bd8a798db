"""What the tests share: values of all kinds, sheets, slow reckonings, and calls made in several ways."""

import copy
import itertools
import random

from keptmarks.errors import MarkError

TWO = (1, ((0, (1, 0)), (1, (2, (0, (3, 1))))))


def nested(deep, wrap):
    """A value in a value, and so on."""
    value = wrap(None)
    for _ in range(deep):
        value = wrap(value)
    return value


# Values of all kinds: none is a sheet, a text of something, a book, a name, a word or the number of a book.
ODD_VALUES = (
    None, True, False, -1, -10 ** 399, 10 ** 399, 10 ** 400 - 1, "", " ", "\n", "x", "0" * 20000, "\n" * 20000,
    (), (None,), (1,), ("none",), ((), ()), (((),),), [], [0], [[]], {}, {0: 1}, {"a": [1]}, {(): ()},
    {True: "sure", None: {"readers": ()}}, ((),) * 4000, [None] * 4000, ("form", "inputs", "many"),
    {(1, (2,)): [3, {4: ()}]}, nested(19, lambda value: [value]), nested(19, lambda value: (value,)),
    nested(19, lambda value: {"cell": value}),
)


def formula_of_parts(cell, parts):
    """A formula that reads the cell, of just so many parts."""
    if parts == 1:
        return cell % 4
    rest = parts - 1
    many = min(4, rest)
    return (cell, tuple(formula_of_parts(cell, rest // many + (place < rest % many)) for place in range(many)))


def formula_of_deep(cell, deep):
    """A formula with a way of just so many numbers."""
    formula = 2
    for _ in range(deep):
        formula = (cell, (1, formula))
    return formula


def made_formula(dice, cell, deep, parts):
    """Some formula of the cell; parts is a list of one number: how many parts may still be made."""
    parts[0] -= 1
    if cell == 0 or deep == 0 or parts[0] < 8 or dice.random() < 0.25:
        return dice.randrange(4)
    many = dice.randrange(1, 5)
    return (dice.randrange(cell), tuple(made_formula(dice, cell, deep - 1, parts) for _ in range(many)))


def made_sheets(many, seed):
    """So many sheets, the same ones whenever they are made with the same seed."""
    dice = random.Random(seed)
    sheets = []
    for _ in range(many):
        inputs = dice.randrange(4)
        formulas = []
        for spot in range(dice.randrange(1, 9)):
            formulas.append(made_formula(dice, inputs + spot, dice.randrange(9), [dice.randrange(10, 60)]))
        sheets.append((inputs, tuple(formulas)))
    return sheets


def made_small_sheet(dice, most=3):
    """Some sheet of few cells, of which most read others."""
    inputs = dice.randrange(1, 3)
    formulas = []
    for spot in range(dice.randrange(1, most + 1)):
        formulas.append(made_formula(dice, inputs + spot, dice.randrange(1, 4), [20]))
    return inputs, tuple(formulas)


def made_lively_sheet(dice, most=3):
    """Some sheet of few cells, each of which reads others, and mostly has another value where these have."""
    inputs = dice.randrange(1, 3)
    formulas = []
    for cell in range(inputs, inputs + dice.randrange(1, most + 1)):
        formula = None
        for _ in range(dice.choice((1, 1, 2))):
            branches = dice.sample(range(4), dice.randrange(2, 5))
            if formula is not None:
                branches[dice.randrange(2)] = formula
            formula = (dice.choice((cell - 1, dice.randrange(cell))), tuple(branches))
        formulas.append(formula)
    return inputs, tuple(formulas)


def made_row(dice, sheet):
    """Some row of a sheet."""
    return tuple(dice.randrange(4) for _ in range(sheet[0]))


def made_deeds(dice, sheet, many):
    """So many deeds; of the inputs and the values few are taken, so that values come back."""
    deeds = []
    for _ in range(many):
        if sheet[0] and dice.random() < 0.5:
            deeds.append(("set", dice.randrange(sheet[0]), dice.randrange(3)))
        else:
            deeds.append(("look", dice.randrange(sheet[0] + len(sheet[1]))))
    return tuple(deeds)


def made_lively_deeds(dice, sheet, many):
    """So many deeds; first one looks at a formula's cell, and most sets change something that was looked at."""
    inputs, formulas = sheet
    deeds = []
    for place in range(many):
        if place % 2 == 0 or dice.random() < 0.4:
            deeds.append(("look", inputs + dice.randrange(len(formulas))))
        else:
            deeds.append(("set", dice.randrange(inputs), dice.randrange(4)))
    return tuple(deeds)


def made_book(dice):
    """Some book."""
    return tuple(dice.choice(words) for words in ENTRY_WORDS)


SHEETS = [
    TWO,
    (0, (3,)),
    (3, (0,)),
    (0, (1, (0, (2, 3)), (1, (0, 0, 1, 2)))),
    (2, (0, (2, ((0, (1, 2)), (1, (0, 1)))))),
    (1, ((0, (0, (0, (2, 3)))),)),
    (1, (formula_of_parts(0, 200),)),
    (2, ((0, (0, 1, 2, 3)),) + (formula_of_parts(1, 199),) * 7),
    (1, (formula_of_deep(0, 8), formula_of_deep(1, 7))),
    (3, (1, 2, (4, (0, (0, (3, 2)))), (2, ((1, (0, 1)),)), (6, (1,)), 3, (8, (0, 1, 2, (7, (3, 0)))), (9, (0, 1)))),
    (3, ((0, ((1, ((2, (0, 1, 2, 3)), 1)), 2)), (3, (3, 2, 1, 0)))),
] + made_sheets(40, 7)

ENTRY_NAMES = (
    "readers", "further", "stop", "perhaps", "sure", "check", "change", "write", "strike", "enter", "old", "hands")

ENTRY_WORDS = (
    ("none", "perhaps", "sure"), ("none", "perhaps", "sure"), ("marked", "unraised", "never"),
    ("answer", "check", "work"), ("answer", "check", "work"), ("values", "mark"), ("none", "sure"),
    ("first", "last", "between"), ("ahead", "behind", "unless"), ("ahead", "behind"), ("struck", "kept"),
    ("one", "any"),
)

VALUES = tuple("perhaps perhaps marked check work values none first ahead ahead struck one".split())
SIGNALS = tuple("sure perhaps marked check work mark sure first ahead ahead struck one".split())
REWORK = tuple("sure sure marked answer work values none first ahead ahead struck one".split())

# The same as the document's books of these names.
TRACED = tuple("sure perhaps marked check work values sure first ahead ahead struck one".split())
NEVER = tuple("none none never answer answer values none first ahead ahead kept any".split())

COPY = (1, ((0, (0, 1)),))
PAIR = (1, ((0, (1, 0)), (1, (0, 1))))
COPIES = (1, ((0, (0, 1, 2, 3)), (1, (0, 1, 2, 3)), (2, (0, 1, 2, 3))))
# Each of the eight formulas reads the one ahead: what goes through all of them takes many steps.
EIGHT = (1, tuple((cell, (0, 1, 2, 3)) for cell in range(8)))


def book_with(book, **words):
    """The book with other words at the entries of these names."""
    return tuple(words.get(name, word) for name, word in zip(ENTRY_NAMES, book))


def some_books(by):
    """The first book, and so on by so many, and the last one."""
    books = list(itertools.product(*ENTRY_WORDS))
    return books[::by] + books[-1:]


def with_item(row, place, item):
    """The tuple with another item at a place."""
    return row[:place] + (item,) + row[place + 1:]


def rows_of(sheet):
    """All rows of a sheet."""
    return list(itertools.product(range(4), repeat=sheet[0]))


def cells_of(sheet):
    """All cells of a sheet."""
    return range(sheet[0] + len(sheet[1]))


def parts_with_ways(formula, way=()):
    """All pairs (way, part) of a formula, in the order of the ways."""
    found = [(way, formula)]
    if isinstance(formula, tuple):
        for place, branch in enumerate(formula[1]):
            found.extend(parts_with_ways(branch, way + (place,)))
    return found


def replaced_part(formula, way, part):
    """The formula with another part where the way leads to."""
    if way == ():
        return part
    cell, branches = formula
    branch = replaced_part(branches[way[0]], way[1:], part)
    return (cell, branches[:way[0]] + (branch,) + branches[way[0] + 1:])


def outcome(function, places, names):
    """What a call returns, or the class and the fields of what it raises, written out."""
    try:
        return repr(function(*places, **names))
    except MarkError as error:
        return repr((type(error).__name__, vars(error)))


def check_calls(test, function, **arguments):
    """Check that a call by place, and by names in any order, does the same each time and changes nothing."""
    before = repr(arguments)
    kept = copy.deepcopy(arguments)
    told = outcome(function, list(arguments.values()), {})
    for names in itertools.permutations(arguments):
        for _ in range(2):
            test.assertEqual(outcome(function, [], {name: arguments[name] for name in names}), told)
    for first in range(len(arguments)):
        names = list(arguments)[first:]
        places = [arguments[name] for name in list(arguments)[:first]]
        test.assertEqual(outcome(function, places, {name: arguments[name] for name in reversed(names)}), told)
    test.assertEqual(outcome(function, list(arguments.values()), {}), told)
    test.assertEqual(repr(arguments), before)
    test.assertEqual(arguments, kept)
