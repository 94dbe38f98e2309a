"""Trees for requests, and which of them are shut."""

import random
import unittest

from fewbounds.errors import BadRequest, BadSet, BadShelf, BadTree
from fewbounds.plans import is_broken, plans
from fewbounds.shelves import Bound, Shelf
from fewbounds.trees import is_shut, is_tree

from samples import BAD_REQUESTS, BAD_SETS, BAD_TREES, NO_SHELVES, Refusing
from samples import all_sets, deep, example, grown_tree, is_right_tree, random_shelf

DONE, OLD, NEW = ("done",), ("bound", "old"), ("bound", "new")


def choose(*trees):
    return ("choose", trees)


# A tree for the request of the example with the set ("old",).
TREE = choose(choose(DONE, DONE), choose(OLD, DONE))


def three():
    """A shelf with a plan that is open and violates two bounds: (2, 1, 0)."""
    return Shelf({"a": 2, "b": 1, "c": 3}, {("b", 1): ("c",)}, [(("c", 3), ("a", 2)), (("c", 2), ("a", 1))],
                 [("a", "b"), ("c",), ("b",)],
                 {"x": Bound("a", (2,), "b", (1,)), "y": Bound("b", (1,), "a", (1, 2)),
                  "z": Bound("c", (2, 3), "a", (1, 2))})


def five():
    """A shelf with five packages of one version each, and a request for all of them."""
    return Shelf({name: 1 for name in "abcde"}, {}, [], [tuple("abcde"), ("a",)], {"x": Bound("d", (1,), "e", (1,))})


def depth(tree):
    return 1 + max([depth(part) for part in tree[1]], default=0) if tree[0] == "choose" else 1


def changed_trees(tree):
    """All tuples in the form of a tree in which one place of a tree is changed."""
    if tree[0] == "choose":
        parts = tree[1]
        yield from (choose(*parts, part) for part in (DONE, ("bound", "x")))
        yield from (choose(*parts[:at], *parts[at + 1:]) for at in range(len(parts)))
        yield choose(*reversed(parts))
        yield choose()
        for at, part in enumerate(parts):
            yield from (choose(*parts[:at], other, *parts[at + 1:]) for other in changed_trees(part))
    yield from (("bound", name) for name in ("u", "v", "w", "x", "y", "z"))
    yield DONE
    yield choose(tree)
    yield choose(tree, tree)


class TreeTest(unittest.TestCase):
    def test_examples(self):
        shelf = Shelf({"app": 1, "lib": 1}, {("app", 1): ("lib",)}, [], [("app",)],
                      {"odd": Bound("app", (1,), "lib", (1,))})
        tree = ("choose", (("choose", (("bound", "odd"),)),))
        self.assertEqual([is_tree(shelf, 0, ("odd",), tree), is_tree(shelf, 0, (), tree)], [True, False])

    def test_the_bound_must_be_in_the_set(self):
        for bounds, right in (((), False), (("old",), True), (("new",), False), (("old", "new"), True)):
            self.assertIs(is_tree(example(), 0, bounds, TREE), right)

    def test_changed_trees(self):
        trees = (choose(choose(DONE, DONE), choose(NEW, DONE)), choose(choose(DONE, DONE), choose(("bound", "odd"), DONE)),
                 choose(choose(DONE, DONE), choose(("bound", "app"), DONE)), choose(choose(DONE, DONE)),
                 choose(choose(DONE, DONE), choose(OLD)), choose(choose(DONE, DONE), choose(OLD, DONE, DONE)),
                 choose(choose(DONE, DONE), choose(OLD, DONE), DONE), choose(choose(DONE, DONE), choose(DONE, OLD)),
                 choose(choose(OLD, DONE), choose(DONE, DONE)), choose(choose(DONE, DONE), choose(DONE, DONE)),
                 choose(choose(OLD, DONE), choose(OLD, DONE)), choose(choose(DONE, NEW), choose(OLD, OLD)),
                 choose(choose(DONE, choose(DONE)), choose(OLD, DONE)), choose(choose(DONE, choose()), choose(OLD, DONE)),
                 choose(choose(), choose(OLD, DONE)), choose(DONE, choose(OLD, DONE)), choose(choose(DONE, DONE), OLD),
                 choose(choose(DONE, DONE), choose(choose(DONE), DONE)), choose(TREE), choose(), DONE, OLD)
        for tree in trees:
            with self.subTest(tree):
                self.assertIs(is_tree(example(), 0, ("old", "new"), tree), False)

    def test_a_plan_that_violates_a_bound_may_be_done(self):
        self.assertIs(is_tree(example(), 0, ("old", "new"), choose(choose(DONE, NEW), choose(OLD, DONE))), True)
        self.assertIs(is_tree(example(), 0, ("old", "new"), TREE), True)

    def test_an_open_plan_that_violates_bounds_has_several_trees(self):
        x, y, z = ("bound", "x"), ("bound", "y"), ("bound", "z")
        for part, right in ((x, True), (y, True), (choose(DONE, DONE, x), True), (choose(x, y, y), True),
                            (choose(y, DONE, y), True), (z, False), (DONE, False), (choose(x, y), False),
                            (choose(DONE, DONE, DONE), False), (choose(DONE, DONE, z), False)):
            self.assertIs(is_tree(three(), 0, ("x", "y"), choose(choose(y), choose(part))), right)

    def test_each_request_has_its_trees(self):
        self.assertIs(is_tree(three(), 1, (), choose(DONE, DONE, DONE)), True)
        self.assertIs(is_tree(three(), 2, (), choose(choose(DONE, DONE, DONE))), True)
        for request in (0, 2):
            self.assertIs(is_tree(three(), request, (), choose(DONE, DONE, DONE)), False)

    def test_the_next_package_may_stand_before_the_last_one(self):
        shelf = Shelf({"a": 2, "b": 1}, {("b", 1): ("a",)}, [], [("b",)], {})
        self.assertIs(is_tree(shelf, 0, (), choose(choose(DONE, DONE))), True)
        self.assertIs(is_tree(shelf, 0, (), choose(choose(DONE), choose(DONE))), False)

    def test_trees_of_each_depth(self):
        for levels in range(1, 7):
            self.assertIs(is_tree(five(), 0, (), deep(levels)), levels == 6)
            self.assertIs(is_tree(five(), 1, (), deep(levels)), levels == 2)
        self.assertIs(is_tree(five(), 0, ("x",), choose(choose(choose(choose(choose(("bound", "x"))))))), True)
        self.assertIs(is_tree(five(), 0, ("x",), choose(choose(choose(choose(("bound", "x")))))), False)

    def test_there_is_a_tree_just_if_no_broken_plan_is_allowed(self):
        trees = 0
        for seed in range(150):
            shelf, _ = random_shelf(seed)
            source = random.Random(seed)
            for request in range(len(shelf.requests)):
                for names in all_sets(shelf)[::5]:
                    tree = grown_tree(shelf, request, names, (0,) * len(shelf.packages), source.choice)
                    allowed = list(plans(shelf, request, names))
                    self.assertIs(tree is None, any(is_broken(shelf, plan) for plan in allowed))
                    if tree is not None:
                        trees += 1
                        self.assertIs(is_tree(shelf, request, names, tree), True)
                        self.assertFalse(is_shut(tree) and allowed)
        self.assertGreater(trees, 500)

    def test_changed_trees_of_many_shelves(self):
        seen = {True: 0, False: 0}
        for seed in range(60):
            shelf, _ = random_shelf(seed)
            source = random.Random(seed)
            names = source.choice(all_sets(shelf))
            plan = (0,) * len(shelf.packages)
            tree = grown_tree(shelf, 0, names, plan, source.choice)
            for other in () if tree is None else list(changed_trees(tree))[:300]:
                if depth(other) <= 6:
                    right = is_right_tree(shelf, 0, names, plan, other)
                    self.assertIs(is_tree(shelf, 0, names, other), right)
                    seen[right] += 1
        self.assertGreater(min(seen.values()), 50)


class ShutTest(unittest.TestCase):
    def test_shut_trees(self):
        trees = (OLD, ("bound", ""), ("bound", "not a name"), choose(), choose(OLD), choose(OLD, NEW, OLD),
                 choose(choose(), choose(OLD, choose(NEW))), choose(choose(choose(choose(choose(OLD))))))
        for tree in trees:
            self.assertIs(is_shut(tree), True)

    def test_trees_that_are_not_shut(self):
        trees = (DONE, TREE, choose(DONE), choose(OLD, DONE), choose(DONE, OLD), choose(choose(OLD, OLD), choose(NEW, DONE)))
        for tree in trees + tuple(deep(levels) for levels in range(1, 7)):
            self.assertIs(is_shut(tree), False)

    def test_a_name_may_be_done(self):
        self.assertIs(is_shut(choose(("bound", "done"), ("bound", "choose"), ("bound", "bound"))), True)
        shelf = Shelf({"a": 1, "b": 1}, {}, [], [("a", "b")], {"done": Bound("a", (1,), "b", (1,))})
        self.assertIs(is_tree(shelf, 0, ("done",), choose(choose(("bound", "done")))), True)


class WrongInputTest(Refusing, unittest.TestCase):
    def test_bad_trees(self):
        for tree in BAD_TREES:
            self.refused(BadTree, is_shut, tree)
            self.refused(BadTree, is_tree, example(), 0, (), tree)

    def test_the_deepest_trees(self):
        self.assertIs(is_tree(example(), 0, (), deep(6)), False)
        self.assertIs(is_tree(example(), 0, (), choose(choose(choose(choose(choose(choose())))))), False)
        self.assertIs(is_shut(choose(choose(choose(choose(choose(choose())))))), True)
        for tree in (deep(7), choose(deep(6)), choose(DONE, deep(6)), choose(choose(choose(choose(choose(choose(choose()))))))):
            self.refused(BadTree, is_shut, tree)
            self.refused(BadTree, is_tree, five(), 0, (), tree)

    def test_any_number_of_trees_in_a_tuple(self):
        for many in (0, 1, 2, 4, 50):
            self.assertIs(is_tree(example(), 0, (), choose(*[DONE] * many)), False)
            self.assertIs(is_shut(choose(*[OLD] * many)), True)

    def test_bad_shelves_requests_and_sets(self):
        for shelf in NO_SHELVES:
            self.assertIsNone(self.refused(BadShelf, is_tree, shelf, 0, (), DONE).part)
        for request in BAD_REQUESTS:
            self.refused(BadRequest, is_tree, example(), request, (), DONE)
        for bounds in BAD_SETS:
            self.refused(BadSet, is_tree, example(), 0, bounds, DONE)

    def test_the_error_that_is_documented_first(self):
        self.refused(BadShelf, is_tree, None, None, None, None)
        self.refused(BadRequest, is_tree, example(), None, None, None)
        self.refused(BadSet, is_tree, example(), 0, None, None)
        self.refused(BadTree, is_tree, example(), 0, (), None)


if __name__ == "__main__":
    unittest.main()
