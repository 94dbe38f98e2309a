"""The names, arguments and places of the interface, and what holds over the whole program."""

import copy
import importlib
import inspect
import unittest

from fewbounds.errors import BadBound, BadDoubt, BadName, BadPlan, BadRequest, BadSet, BadShelf, BadText, BadTree
from fewbounds.errors import BoundError, NotAllowed, NothingDone, NotInstalled
from fewbounds.plans import is_broken, plans
from fewbounds.sessions import Session
from fewbounds.shelves import Bound, Shelf
from fewbounds.texts import read_shelf
from fewbounds.trees import cheapest, is_doubt, is_shut
from fewbounds.upgrades import upgrade

from samples import example, example_bounds, example_breaks, example_needs

FUNCTIONS = {
    "plans": {"plans": "(shelf, request, bounds=())", "next_package": "(shelf, request, plan)",
              "is_broken": "(shelf, plan)", "allows": "(shelf, bounds, plan)", "is_right": "(shelf, bounds)",
              "set_cost": "(shelf, bounds)"},
    "trees": {"is_tree": "(shelf, request, bounds, tree)", "is_shut": "(tree)", "is_doubt": "(shelf, bounds, doubt)",
              "cheapest": "(shelf)"},
    "upgrades": {"upgrade": "(shelf, request, plan, bounds=())", "must_change": "(shelf, request, plan, bounds=())",
                 "needless": "(shelf, bounds)"},
    "texts": {"shelf_text": "(shelf)", "read_shelf": "(text)"}}

CLASSES = {
    "shelves": {"Bound": "(first, versions, second, others, *, cost=1)",
                "Shelf": "(packages, needs, breaks, requests, bounds)"},
    "trees": {"Bounding": "(bounds, plans, trees, doubts)", "NoBounding": "(doubts)"},
    "sessions": {"Session": "(shelf, bounds=())"}}

METHODS = {
    "Bound": ("__neg__", "__eq__"), "Shelf": ("needs", "__getitem__", "__contains__", "__len__", "__eq__"),
    "Bounding": ("__eq__", "shows"), "NoBounding": ("__eq__", "shows"),
    "Session": ("install", "remove", "undo", "possible", "__contains__", "__getitem__", "__len__", "__bool__")}

PROPERTIES = {"Bound": ("first", "versions", "second", "others", "cost"), "Shelf": ("packages", "requests", "names"),
              "Session": ("plan", "missing"), "Bounding": (), "NoBounding": ()}


def listed(table):
    """Each listed function or class with its file and its arguments."""
    for file, rows in table.items():
        for name, words in rows.items():
            yield f"fewbounds.{file}", getattr(importlib.import_module(f"fewbounds.{file}"), name), words


class InterfaceTest(unittest.TestCase):
    def test_functions(self):
        for file, function, words in listed(FUNCTIONS):
            self.assertTrue(inspect.isfunction(function))
            self.assertEqual((function.__module__, str(inspect.signature(function))), (file, words))

    def test_classes(self):
        for file, made, words in listed(CLASSES):
            self.assertEqual((made.__module__, str(inspect.signature(made))), (file, words))
            self.assertIn("__init__", vars(made))

    def test_methods_and_properties_stand_in_the_class_itself(self):
        for _, made, _ in listed(CLASSES):
            for name in METHODS[made.__name__]:
                self.assertTrue(inspect.isfunction(vars(made)[name]), name)
            for name in PROPERTIES[made.__name__]:
                self.assertIsInstance(vars(made)[name], property)

    def test_arguments_of_methods(self):
        for name, words in (("install", "(self, package, version)"), ("remove", "(self, package)"), ("undo", "(self)"),
                            ("possible", "(self)")):
            self.assertEqual(str(inspect.signature(vars(Session)[name])), words)

    def test_generators(self):
        self.assertTrue(inspect.isgenerator(plans(None, None)))
        self.assertTrue(inspect.isgenerator(Session(example()).possible()))


class WholeProgramTest(unittest.TestCase):
    def test_each_error_is_caught_as_one_of_the_package(self):
        session = Session(example())
        session.install("lib", 1)
        calls = ((BadBound, lambda: Bound("a", (1,), "a", (1,))), (BadShelf, lambda: cheapest(None)),
                 (BadName, lambda: example()["odd"]), (BadSet, lambda: Session(example(), ("odd",))),
                 (BadRequest, lambda: list(plans(example(), 1))), (BadPlan, lambda: is_broken(example(), ())),
                 (BadTree, lambda: is_shut(())), (BadDoubt, lambda: is_doubt(example(), (), ())),
                 (NotAllowed, lambda: session.install("app", 2)), (NotInstalled, lambda: session.remove("app")),
                 (NothingDone, Session(example()).undo), (BadText, lambda: read_shelf("")))
        for error, call in calls:
            for wider in (error, BoundError, ValueError):
                with self.subTest(error.__name__), self.assertRaises(wider) as caught:
                    call()
                self.assertIs(caught.exception.__class__, error)

    def test_parts_of_a_bad_shelf(self):
        parts = {"packages": {"app": 2, "lib": 2}, "needs": example_needs(), "breaks": example_breaks(),
                 "requests": [("app",)], "bounds": example_bounds()}
        for name in parts:
            with self.assertRaises(BadShelf) as caught:
                Shelf(**{**parts, name: None})
            self.assertEqual(caught.exception.part, name.upper())
        with self.assertRaises(BadShelf) as caught:
            upgrade({}, 0, (1, 1))
        self.assertIsNone(caught.exception.part)

    def test_booleans_are_not_integers(self):
        shelf = example()
        with self.assertRaises(BadPlan):
            upgrade(shelf, 0, (True, 1))
        with self.assertRaises(BadRequest):
            upgrade(shelf, False, (1, 1))
        with self.assertRaises(BadDoubt):
            is_doubt(shelf, (), ("broken", False, (2, 1)))
        with self.assertRaises(BadDoubt):
            is_doubt(shelf, (), ("broken", 0, (2, True)))
        with self.assertRaises(BadName):
            Session(shelf).install("app", True)

    def test_a_shelf_may_be_used_after_its_arguments_are_changed(self):
        parts = [{"app": 2, "lib": 2}, example_needs(), example_breaks(), [("app",)], example_bounds()]
        before = copy.deepcopy(parts)
        shelf = Shelf(*parts)
        session, found = Session(shelf, ("new",)), cheapest(shelf)
        self.assertEqual(parts, before)
        for part in parts:
            part.clear()
        self.assertEqual((cheapest(shelf), found.shows(shelf)), (found, True))
        self.assertEqual((session.install("app", 2), session.missing), ((2, 0), ["lib"]))

    def test_the_same_calls_give_the_same_answers(self):
        self.assertEqual(cheapest(example()), cheapest(example()))
        self.assertEqual(list(cheapest(example()).doubts), list(cheapest(example()).doubts))


if __name__ == "__main__":
    unittest.main()
