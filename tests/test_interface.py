"""The interface: the bounds, the errors, and in which file what is defined."""

import ast
import pathlib
import unittest

from keptmarks import bounds, errors
from keptmarks.roomlogs import room_behind
from keptmarks.rooms import Room
from tests.samples import ODD_VALUES, PAIR, VALUES

PACKAGE = pathlib.Path(__file__).resolve().parent.parent / "keptmarks"

BOUNDS = {
    "MAX_INPUTS": 3, "MAX_FORMULAS": 8, "MAX_VALUE": 3, "MAX_PARTS": 200, "MAX_DEEP": 8, "MAX_DEEDS": 200,
    "MAX_HANDS": 3, "MAX_STEPS": 4000, "MAX_ORDER": 200, "MAX_WOVEN": 20000, "MAX_EDITS": 200,
}

WITH_ARGUMENT = {"BadSheet": "error", "BadBook": "error", "BadText": "line", "BadLog": "place", "TooMany": "limit"}
WITHOUT_ARGUMENT = ("Unfit", "TooManyEdits", "NothingToUndo")

FUNCTIONS = {
    "sheets": {"sheet_error": ["value"]},
    "asking": {
        "true_value": ["sheet", "row", "cell"], "true_reads": ["sheet", "row", "cell"], "relies": ["sheet", "cell"],
    },
    "sheettexts": {"sheet_text": ["sheet"], "read_sheet": ["value"]},
    "books": {
        "book_error": ["value"], "altered": ["book", "name", "word"], "can_stand": ["book"], "book_number": ["book"],
        "book_at": ["number"], "neighbours": ["book"],
    },
    "booktexts": {"book_text": ["book"], "read_book": ["value"]},
    "knownbooks": {"known_names": [], "known_book": ["value"]},
    "standings": {
        "start": ["sheet", "row", "programs"], "has_ended": ["standing"], "can_step": ["book", "standing", "hand"],
        "kept_cells": ["standing"],
    },
    "steps": {
        "step": ["book", "sheet", "standing", "hand"], "told": ["book", "sheet", "standing", "hand"],
        "after": ["book", "sheet", "standing", "order"],
    },
    "aloneruns": {"alone": ["book", "sheet", "row", "deeds"]},
    "onehand": {"slip_alone": ["book"], "safe_alone": ["book"]},
    "onerun": {"losing_alone": ["book"], "losing_alone_error": ["book", "value"]},
    "working": {"works": ["book", "sheet", "row", "deeds"], "least_works": ["sheet", "row", "deeds"]},
    "vain": {"no_vain": ["book"], "vain_run": ["book"]},
    "weaving": {
        "woven": ["book", "sheet", "row", "programs"], "how_many_orders": ["book", "sheet", "row", "programs"],
    },
    "weavesearch": {
        "wrongly_told": ["book", "sheet", "standing"], "may_lose": ["book", "sheet", "row", "programs"],
    },
    "safety": {"slip": ["book"], "safe": ["book"], "mended": ["book"]},
    "losingruns": {"losing": ["book"]},
    "losingjudge": {"losing_error": ["book", "value"]},
    "awaited": {
        "wrong_cells": ["sheet", "standing"], "awaited_cells": ["book", "sheet", "standing"],
        "lost_cells": ["book", "sheet", "standing"],
    },
    "comparing": {
        "is_quiet": ["book"], "hasty": ["book"], "never_more": ["one", "other"], "more_run": ["one", "other"],
        "more_error": ["one", "other", "value"],
    },
    "roomlogs": {
        "log_text": ["log"], "read_log": ["value"], "room_behind": ["book", "sheet", "row", "value"],
    },
}

# Of each class its methods with their arguments, and its attributes.
CLASSES = {
    "rooms": {
        "Room": (
            {"__init__": ["book", "sheet", "row"], "look": ["cell"], "put": ["x", "v"], "change": ["cell", "formula"],
             "undo": [], "twin": [], "__eq__": ["other"]},
            ("book", "sheet", "row", "edits", "version", "worked", "kept")),
    },
    "shells": {"Shell": ({"__init__": [], "say": ["line"]}, ())},
}


def all_errors():
    """One of each error, by its class's name."""
    made = {name: getattr(errors, name)() for name in WITHOUT_ARGUMENT}
    made.update({name: getattr(errors, name)(0) for name in WITH_ARGUMENT})
    return made


class Bounds(unittest.TestCase):
    def test_numbers(self):
        for name, number in BOUNDS.items():
            self.assertIs(type(getattr(bounds, name)), int)
            self.assertEqual(getattr(bounds, name), number, name)


class Errors(unittest.TestCase):
    def test_kept_just_as_made(self):
        for name, field in WITH_ARGUMENT.items():
            for value in ODD_VALUES + (0, "error", errors.Unfit()):
                self.assertIs(getattr(getattr(errors, name)(value), field), value)
                self.assertIs(getattr(getattr(errors, name)(**{field: value}), field), value)
                self.assertEqual(list(vars(getattr(errors, name)(value))), [field])

    def test_an_argument_is_asked_for(self):
        for name in WITH_ARGUMENT:
            with self.assertRaises(TypeError):
                getattr(errors, name)()

    def test_made_of_nothing(self):
        for name in WITHOUT_ARGUMENT:
            self.assertEqual(vars(getattr(errors, name)()), {})

    def test_place_of_each_class(self):
        self.assertEqual(errors.MarkError.__bases__, (ValueError,))
        for name, error in all_errors().items():
            self.assertEqual(type(error).__bases__, (errors.MarkError,), name)
            self.assertIsInstance(error, ValueError)
            for other in all_errors():
                self.assertEqual(isinstance(error, getattr(errors, other)), other == name)

    def test_raised_and_caught(self):
        for name, error in all_errors().items():
            for caught in (getattr(errors, name), errors.MarkError, ValueError):
                with self.assertRaises(caught):
                    raise error
            self.assertIsInstance(str(error), str)


class Files(unittest.TestCase):
    def test_defined_where_they_are_listed(self):
        for module, functions in FUNCTIONS.items():
            tree = ast.parse((PACKAGE / (module + ".py")).read_text())
            found = {node.name: node for node in tree.body if isinstance(node, ast.FunctionDef)}
            for name, arguments in functions.items():
                self.assertIn(name, found, module)
                self.assertEqual([argument.arg for argument in found[name].args.args], arguments)

    def test_classes_with_their_methods(self):
        for module, classes in CLASSES.items():
            tree = ast.parse((PACKAGE / (module + ".py")).read_text())
            found = {node.name: node for node in tree.body if isinstance(node, ast.ClassDef)}
            for name, (methods, attributes) in classes.items():
                self.assertIn(name, found, module)
                own = {node.name: node for node in found[name].body if isinstance(node, ast.FunctionDef)}
                for method, arguments in methods.items():
                    self.assertIn(method, own, name)
                    self.assertEqual([argument.arg for argument in own[method].args.args][1:], arguments, method)

    def test_attributes_are_set_on_each_object(self):
        for room in (Room(VALUES, PAIR, (0,)), Room(VALUES, PAIR, (0,)).twin(), room_behind(VALUES, PAIR, (0,), ())):
            for name in CLASSES["rooms"]["Room"][1]:
                self.assertTrue(hasattr(room, name), name)

    def test_errors_are_defined_in_their_file(self):
        tree = ast.parse((PACKAGE / "errors.py").read_text())
        found = [node.name for node in tree.body if isinstance(node, ast.ClassDef)]
        self.assertEqual(sorted(found), sorted(["MarkError", *WITH_ARGUMENT, *WITHOUT_ARGUMENT]))
