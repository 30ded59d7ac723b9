"""Tests that the interface stands as the document lists it: promises [3], [4] and [40]."""

import importlib
import inspect
import unittest

from fallways.errors import FallError, Held
from fallways.histories import is_closed
from fallways.plans import Plan
from fallways.runs import Run
from checks import Checks
from works import ONE, count_plan, page, row_plan

FUNCTIONS = {
    "histories": {
        "left": ["plan", "history"], "outcome": ["plan", "history"], "outcomes": ["plan"], "disks": ["plan"],
        "is_closed": ["plan", "rows"],
    },
    "asks": {
        "every": ["plan", "test"], "some": ["plan", "test"], "first": ["plan", "test"], "not_whole": ["plan"],
        "not_settled": ["plan"],
    },
    "repairs": {
        "guards": ["plan"], "spared": ["plan", "steps"], "least_guards": ["plan", "test"],
        "flushed": ["plan", "places"], "least_flushes": ["plan", "places", "test"],
    },
}

METHODS = {
    ("hands", "Hand"): {
        "look": ["page"], "put": ["page", "value"], "barrier": [], "flush": [], "say": ["value"], "fail": ["value"],
    },
    ("plans", "Plan"): {"names": [], "start": []},
    ("runs", "Run"): {
        "steps": [], "end": [], "said": [], "pages_at": ["moment"], "flushed_at": ["moment"], "said_by": ["moment"],
        "epochs_at": ["moment"], "kept_at": ["moment"], "left_by": ["fall"], "lefts": [],
    },
}

ERRORS = {
    "BadName": ["name"], "BadValue": ["value"], "BadLimit": ["limit"], "NoPage": ["name"], "NoMoment": ["moment"],
    "BadFall": ["fall"], "BadGuard": ["step"], "BadPlace": ["place"], "NotTruth": ["value"], "Beyond": [],
}


def module(name):
    return importlib.import_module(f"fallways.{name}")


def parameters(function):
    return list(inspect.signature(function).parameters)


class Interface(Checks):
    def test_functions(self):
        for name, functions in FUNCTIONS.items():
            for word, wanted in functions.items():
                function = vars(module(name))[word]
                self.assertTrue(inspect.isfunction(function), word)
                self.assertEqual(function.__module__, f"fallways.{name}")
                self.assertEqual(parameters(function), wanted)

    def test_methods_stand_in_their_class(self):
        for (name, word), methods in METHODS.items():
            kind = vars(module(name))[word]
            self.assertEqual(kind.__module__, f"fallways.{name}")
            for method, wanted in methods.items():
                self.assertTrue(inspect.isfunction(vars(kind)[method]), method)
                self.assertEqual(parameters(vars(kind)[method]), ["self", *wanted])

    def test_static_methods(self):
        for word, wanted in (("of", ["plan"]), ("mending", ["plan", "disk"])):
            self.assertIsInstance(vars(Run)[word], staticmethod)
            self.assertEqual(parameters(vars(Run)[word].__func__), wanted)

    def test_errors(self):
        for word, wanted in ERRORS.items():
            kind = vars(module("errors"))[word]
            self.assertEqual((kind.__module__, kind.__bases__), ("fallways.errors", (FallError,)))
            self.assertEqual(parameters(kind), wanted)
        self.assertEqual((FallError.__bases__, Held.__bases__), ((ValueError,), (Exception,)))
        self.assertEqual(parameters(Held), [])

    def test_kinds_of_what_is_told(self):
        plan = row_plan()
        for name, functions in FUNCTIONS.items():
            for word, wanted in functions.items():
                passed = {
                    "plan": plan, "history": [], "rows": [], "test": lambda told: False, "steps": [2], "places": [0],
                }
                told = vars(module(name))[word](**{key: passed[key] for key in wanted})
                kinds = {
                    "left": tuple, "outcome": tuple, "is_closed": bool, "every": bool, "some": bool, "spared": Plan,
                    "flushed": Plan, "first": type(None), "not_whole": type(None), "not_settled": type(None),
                }
                self.assertIs(type(told), kinds.get(word, list), word)

    def test_runs_by_name(self):
        run = Run.of(plan=count_plan())
        self.assertEqual(Run.mending(disk=page(1), plan=count_plan()).end(), ("told", 1))
        self.assertEqual(run.pages_at(moment=1), page(1))
        self.assertEqual(run.flushed_at(moment=1), page(0))
        self.assertEqual(run.said_by(moment=1), ())
        self.assertEqual(run.epochs_at(moment=1), [[("a", 1)]])
        self.assertEqual(run.kept_at(moment=1), [((0, 0),), (ONE,)])
        self.assertEqual(run.left_by(fall=(1, (ONE,))), page(1))

    def test_nothing_is_imported_into_the_package_itself(self):
        package = importlib.import_module("fallways")
        self.assertNotIn("Plan", vars(package))

    def test_static_methods_of_an_object(self):
        run = Run.of(count_plan())
        self.assertEqual(run.of(count_plan()).lefts(), run.lefts())
        self.assertIs(is_closed(count_plan(), [disk for disk, _ in run.lefts()]), False)


if __name__ == "__main__":
    unittest.main()
