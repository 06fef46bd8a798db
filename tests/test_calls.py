"""A3: each call of the interface by place and by names in any order, made twice, with what was handed in unchanged."""

import copy
import importlib
import itertools
import random
import unittest

from keptmarks.errors import MarkError
from keptmarks.losingruns import losing
from keptmarks.rooms import Room
from keptmarks.shells import Shell
from keptmarks.standings import start
from keptmarks.steps import after
from tests.samples import (
    COPY, NEVER, ODD_VALUES, PAIR, REWORK, SIGNALS, TWO, VALUES, book_with, check_calls, made_sheets, nested,
)
from tests.test_interface import CLASSES, FUNCTIONS
from tests.test_rooms import state

LATE = book_with(VALUES, strike="behind")
DEEDS = (("look", 2), ("set", 0, 1), ("look", 2))
PROGRAMS = ((("look", 2),), (("set", 0, 1),))
AMID = after(VALUES, PAIR, start(PAIR, (0,), PROGRAMS), (0,) * 12 + (1,) * 3)
OVER = after(VALUES, PAIR, start(PAIR, (0,), PROGRAMS), (0,) * 12 + (1,) * 8)
LOG = (("put", 0, 3), ("change", 2, (1, (3, 0))))

# Of each argument some of what may be handed in for it.
ARGUMENTS = {
    "book": (VALUES, LATE), "sheet": (PAIR,), "row": ((0,), (3,)), "cell": (2, 0), "name": ("hands", "x"),
    "word": ("any", None), "number": (5, -1), "hand": (0, 1), "order": ((1,), (0,)), "standing": (AMID, OVER),
    "programs": (PROGRAMS,), "deeds": (DEEDS,), "one": (VALUES, REWORK), "other": (VALUES, SIGNALS), "log": (LOG, ()),
    "value": (None, PAIR, LOG),
}
# Where a function takes a standing in which all hands have ended.
ENDED = {"wrongly_told"}

# Values as long and as deep as a value may be, and what the package returned.
LARGE_VALUES = (
    nested(19, lambda value: (value, 0)), nested(19, lambda value: [value, ()]), ((((),) * 10,) * 10,) * 30,
    tuple(range(3999)), [tuple(range(60))] * 60, {number: (number,) for number in range(1900)}, "c0(" * 6666,
    "put 0 1\n" * 2500, tuple("abc" * 1300), ((("put", 0, 1),) * 999), AMID, OVER, (AMID, OVER), losing(LATE),
    losing(LATE)[:2] + (losing(LATE)[2] * 700,) + losing(LATE)[3:], Room(VALUES, PAIR, (0,)),
    (Room(VALUES, PAIR, (0,)),) * 4, {"room": Room(VALUES, PAIR, (0,))}, (VALUES,) * 300,
)


def told(function, places, names):
    """What a call tells, written out; of a room all that can be read of it."""
    try:
        value = function(*places, **names)
    except MarkError as error:
        return repr((type(error).__name__, vars(error)))
    return repr(state(value)) if isinstance(value, Room) else repr(value)


class Functions(unittest.TestCase):
    def each_function(self):
        for module, functions in FUNCTIONS.items():
            found = importlib.import_module("keptmarks." + module)
            for name, arguments in functions.items():
                yield getattr(found, name), name, arguments

    def test_each_function(self):
        many = 0
        for function, name, arguments in self.each_function():
            many += 1
            choices = [(OVER,) if argument == "standing" and name in ENDED else ARGUMENTS[argument]
                       for argument in arguments]
            for values in itertools.product(*choices):
                self.check(function, dict(zip(arguments, values)))
        self.assertEqual(many, 52)

    def check(self, function, arguments):
        before = repr(arguments)
        kept = copy.deepcopy(arguments)
        expected = told(function, list(arguments.values()), {})
        for names in itertools.permutations(arguments):
            self.assertEqual(told(function, [], {name: arguments[name] for name in names}), expected)
        self.assertEqual(told(function, list(arguments.values()), {}), expected)
        # Equal arguments that are other objects.
        self.assertEqual(told(function, list(kept.values()), {}), expected)
        self.assertEqual(repr(arguments), before)
        self.assertEqual(arguments, kept)

    def test_values_of_any_kind(self):
        for function, name, arguments in self.each_function():
            if "value" not in arguments:
                continue
            values = {argument: ARGUMENTS[argument][0] for argument in arguments}
            for value in (*ODD_VALUES, *LARGE_VALUES):
                values["value"] = value
                expected = told(function, [], values)
                self.assertEqual(told(function, list(values.values()), {}), expected)

    def test_any_values_for_the_others_that_may_be_any(self):
        errors = {
            "altered": {"name": "Unfit", "word": "Unfit"}, "book_at": {"number": "Unfit"},
            "room_behind": {"book": "BadBook", "sheet": "BadSheet", "row": "Unfit"},
        }
        for function, name, arguments in self.each_function():
            for argument, error in errors.get(name, {}).items():
                for value in (*ODD_VALUES, *LARGE_VALUES):
                    values = {one: ARGUMENTS[one][0] for one in arguments}
                    values[argument] = value
                    if value != (1,):
                        self.assertIn(f"('{error}', ", told(function, [], values))

    def test_what_is_returned_does_not_change_later(self):
        results = []
        for function, name, arguments in self.each_function():
            values = [(OVER,) if argument == "standing" and name in ENDED else ARGUMENTS[argument]
                      for argument in arguments]
            try:
                result = function(*[choices[0] for choices in values])
            except MarkError:
                continue
            if not isinstance(result, Room):
                results.append((result, repr(result)))
        self.test_each_function()
        for result, written in results:
            self.assertEqual(repr(result), written)
            self.assertIsInstance(result, (tuple, str, int, bool, type(None)))


class Methods(unittest.TestCase):
    def made(self):
        """A room in which something was done, and a shell with such a room."""
        room = Room(VALUES, PAIR, (0,))
        room.put(0, 1)
        room.look(2)
        shell = Shell()
        shell.say("sheet inputs 1\nc1 = c0(1, 0)\nc2 = c1(0, 1)")
        shell.say("put 0 1")
        shell.say("look 2")
        return room, shell

    def read(self, thing):
        if isinstance(thing, Room):
            return repr(state(thing))
        return repr([thing.say(line) for line in ("entries", "row", "worked", "kept", "show", "log")])

    def test_each_method(self):
        done = set()
        values = (*ODD_VALUES, *LARGE_VALUES, 0, 1, 2, (0, (1, 2)), "judge", "look 2", "undo", "put 0 3", "log")
        for place, (module, name) in enumerate((("rooms", "Room"), ("shells", "Shell"))):
            for method, arguments in CLASSES[module][name][0].items():
                if method in ("__init__", "__eq__"):
                    continue
                done.add(method)
                for value in values:
                    given = dict.fromkeys(arguments, value)
                    for other in (0, 1) if len(arguments) == 2 else (None,):
                        if other is not None:
                            given[arguments[0]] = other + (method == "change")
                        self.check_method(place, method, given)
        self.assertEqual(done, {"look", "put", "change", "undo", "twin", "say"})

    def check_method(self, place, method, given):
        before = repr(given)
        expected = None
        for names in list(itertools.permutations(given)) * 2 + [None]:
            thing = self.made()[place]
            if names is None:
                found = told(getattr(thing, method), list(given.values()), {}), self.read(thing)
            else:
                found = told(getattr(thing, method), [], {name: given[name] for name in names}), self.read(thing)
            expected = expected or found
            self.assertEqual(found, expected)
        self.assertEqual(repr(given), before)

    def test_room_and_shell(self):
        for book in (VALUES, NEVER, None):
            for sheet in (PAIR, TWO, None):
                for row in ((0,), (4,), None):
                    check_calls(self, lambda book, sheet, row: state(Room(book, sheet, row)),
                                book=book, sheet=sheet, row=row)
                    expected = told(Room, (book, sheet, row), {})
                    for names in itertools.permutations(("book", "sheet", "row")):
                        given = {"book": book, "sheet": sheet, "row": row}
                        self.assertEqual(told(Room, (), {name: given[name] for name in names}), expected)
        for value in LARGE_VALUES:
            for given in ((value, PAIR, (0,)), (VALUES, value, (0,)), (VALUES, PAIR, value)):
                self.assertRegex(told(Room, given, {}), "BadBook|BadSheet|Unfit")
        self.assertEqual(Shell().say("judge"), Shell().say(line="judge"))

    def test_errors_have_equal_fields(self):
        for sheet in made_sheets(20, 99):
            wrong = (sheet[0], sheet[1] + (9,))
            fields = []
            for _ in range(2):
                with self.assertRaises(MarkError) as caught:
                    Room(VALUES, wrong, (0,) * sheet[0])
                fields.append((type(caught.exception), vars(caught.exception)))
            self.assertEqual(fields[0], fields[1])

    def test_nothing_is_shared_between_rooms_or_shells(self):
        dice = random.Random(1)
        rooms = [Room(VALUES, COPY, (0,)) for _ in range(3)]
        shells = [Shell() for _ in range(3)]
        for _ in range(30):
            place = dice.randrange(3)
            others = [repr(state(room)) for at, room in enumerate(rooms) if at != place]
            answers = [shell.say("entries") for at, shell in enumerate(shells) if at != place]
            rooms[place].put(0, dice.randrange(4))
            rooms[place].look(1)
            shells[place].say(f"number {dice.randrange(69984)}")
            self.assertEqual([repr(state(room)) for at, room in enumerate(rooms) if at != place], others)
            self.assertEqual([shell.say("entries") for at, shell in enumerate(shells) if at != place], answers)
