"""The names and places of the interface."""

import inspect
from importlib import import_module
from unittest import TestCase

FUNCTIONS = {
    "lists": {"verdict": "(lines, path)"},
    "deciding": {
        "compare": "(one, other)", "first_difference": "(one, other)", "first_uncovered": "(one, other)",
    },
    "families": {
        "faithful_sets": "(lines)", "least_sets": "(lines)", "greatest_unfaithful": "(lines)", "breaches": "(lines)",
        "rescues": "(lines)", "family": "(lines)",
    },
    "shortening": {"shortest": "(lines)"},
    "ordering": {"exchanged": "(lines, index)", "free_neighbours": "(lines)"},
    "texts": {"rule_text": "(rule)", "lines_text": "(lines)", "read_lines": "(text)"},
    "digits": {"encode_sets": "(lines, sets)", "decode_sets": "(lines, text)"},
}

CLASSES = {
    ("errors", "LineError"): [],
    ("rules", "Rule"): [
        "__init__", "__eq__", "of", "matches", "pattern", "again", "directories", "anchored",
    ],
    ("lists", "Lines"): [
        "__init__", "__eq__", "__len__", "__getitem__", "__add__", "__contains__", "of", "subsets",
    ],
    ("evidence", "Evidence"): ["NAME", "fields", "__eq__"],
    ("deciding", "Agree"): ["NAME", "__init__", "fields", "is_correct"],
    ("deciding", "Differ"): ["NAME", "__init__", "fields", "is_correct"],
    ("families", "Family"): ["NAME", "__init__", "fields", "is_correct"],
    ("shortening", "Shortest"): ["NAME", "__init__", "fields", "is_correct"],
    ("editors", "Editor"): [
        "__init__", "__len__", "lines", "history", "leave_out", "exchange", "insert", "undo", "needless",
    ],
}

PROPERTIES = {
    ("rules", "Rule"): ["pattern", "again", "directories", "anchored"],
    ("evidence", "Evidence"): ["fields"],
    ("deciding", "Agree"): ["fields"],
    ("deciding", "Differ"): ["fields"],
    ("families", "Family"): ["fields"],
    ("shortening", "Shortest"): ["fields"],
    ("editors", "Editor"): ["lines", "history"],
}

PARAMETERS = {
    ("rules", "Rule"): "(pattern, *, again=False, directories=False, anchored=False)",
    ("lists", "Lines"): "(rules)",
    ("evidence", "Evidence"): "()",
    ("deciding", "Agree"): "(states)",
    ("deciding", "Differ"): "(path)",
    ("families", "Family"): "(sets, doubts)",
    ("shortening", "Shortest"): "(found, doubts)",
    ("editors", "Editor"): "(lines)",
}


def module(name):
    return import_module("ignorelines." + name)


class TestInterface(TestCase):
    def test_functions(self):
        for place, functions in FUNCTIONS.items():
            for name, parameters in functions.items():
                function = getattr(module(place), name)
                self.assertEqual(function.__module__, "ignorelines." + place)
                self.assertEqual(str(inspect.signature(function)), parameters, name)

    def test_classes(self):
        for (place, name), members in CLASSES.items():
            made = getattr(module(place), name)
            self.assertEqual(made.__module__, "ignorelines." + place)
            for member in members:
                self.assertIn(member, vars(made), (name, member))

    def test_parameters_of_classes(self):
        for (place, name), parameters in PARAMETERS.items():
            self.assertEqual(str(inspect.signature(getattr(module(place), name))), parameters)

    def test_properties(self):
        for (place, name), properties in PROPERTIES.items():
            for told in properties:
                self.assertIsInstance(vars(getattr(module(place), name))[told], property)

    def test_parameters_of_methods(self):
        for place, name in (("deciding", "Agree"), ("deciding", "Differ")):
            method = getattr(module(place), name).is_correct
            self.assertEqual(str(inspect.signature(method)), "(self, one, other)")
        for place, name in (("families", "Family"), ("shortening", "Shortest")):
            method = getattr(module(place), name).is_correct
            self.assertEqual(str(inspect.signature(method)), "(self, lines)")
        self.assertEqual(str(inspect.signature(module("rules").Rule.matches)), "(self, path)")
        self.assertEqual(str(inspect.signature(module("rules").Rule.of)), "(text)")
        self.assertEqual(str(inspect.signature(module("lists").Lines.of)), "(*texts)")
        editor = module("editors").Editor
        for name, parameters in (
            ("leave_out", "(self, index)"), ("exchange", "(self, index)"), ("insert", "(self, index, rule)"),
            ("undo", "(self)"), ("needless", "(self)"),
        ):
            self.assertEqual(str(inspect.signature(getattr(editor, name))), parameters)
