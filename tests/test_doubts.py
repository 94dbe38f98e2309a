"""Doubts against sets of bounds."""

import random
import unittest

from fewbounds.errors import BadDoubt, BadSet, BadShelf
from fewbounds.plans import is_right
from fewbounds.shelves import Bound, Shelf
from fewbounds.trees import is_doubt, is_shut

from samples import BAD_DOUBTS, BAD_SETS, NO_SHELVES, Refusing
from samples import all_plans, all_sets, deep, example, grown_tree, is_right_doubt, random_shelf


def closed():
    """A shelf whose request has plans that violate x, others that violate y, and (1, 1) that violates both."""
    return Shelf({"a": 2, "b": 1}, {("a", 1): ("b",), ("a", 2): ("b",)}, [(("a", 2), ("b", 1))], [("b",), ("a",)],
                 {"x": Bound("a", (1,), "b", (1,)), "y": Bound("a", (1, 2), "b", (1,))})


SHUT_BY_Y = ("choose", (("choose", (("bound", "y"),)), ("choose", (("bound", "y"),))))
SHUT_BY_BOTH = ("choose", (("choose", (("bound", "x"),)), ("choose", (("bound", "y"),))))


class BrokenTest(unittest.TestCase):
    def test_broken_plans(self):
        for bounds, plan, right in (((), (2, 1), True), (("new",), (2, 1), True), (("old",), (2, 1), False),
                                    (("old", "new"), (2, 1), False), ((), (1, 1), False), ((), (2, 2), False),
                                    ((), (2, 0), False), ((), (0, 1), False), ((), (0, 0), False)):
            self.assertIs(is_doubt(example(), bounds, ("broken", 0, plan)), right)

    def test_the_plan_must_be_one_of_the_request(self):
        shelf = Shelf({"a": 1, "b": 1, "c": 1}, {("a", 1): ("b",)}, [(("a", 1), ("b", 1))],
                      [("b",), ("a",), ("a", "b", "c")], {})
        found = [[is_doubt(shelf, (), ("broken", request, plan)) for plan in ((1, 1, 0), (1, 1, 1))]
                 for request in range(3)]
        self.assertEqual(found, [[False, False], [True, False], [False, True]])


class ShutTest(unittest.TestCase):
    def test_shut_trees(self):
        for bounds, by_y, by_both in (((), False, False), (("x",), False, False), (("y",), True, False),
                                      (("x", "y"), True, True)):
            self.assertIs(is_doubt(closed(), bounds, ("shut", 1, SHUT_BY_Y)), by_y)
            self.assertIs(is_doubt(closed(), bounds, ("shut", 1, SHUT_BY_BOTH)), by_both)

    def test_a_tree_of_another_request(self):
        self.assertIs(is_doubt(closed(), ("y",), ("shut", 0, SHUT_BY_Y)), False)

    def test_a_tree_that_is_not_shut(self):
        done = ("choose", (("done",),))
        self.assertIs(is_doubt(closed(), (), ("shut", 0, done)), False)
        half = ("choose", (("choose", (("done",),)), ("choose", (("bound", "y"),))))
        self.assertIs(is_doubt(closed(), ("y",), ("shut", 1, half)), False)

    def test_a_shut_tuple_that_is_no_tree(self):
        for tree in (("bound", "y"), ("choose", ()), ("choose", (("bound", "y"), ("bound", "y"))),
                     ("choose", (("choose", (("bound", "y"),)),)), ("choose", SHUT_BY_Y[1] * 2)):
            self.assertIs(is_doubt(closed(), ("x", "y"), ("shut", 1, tree)), False)


class ManyShelvesTest(unittest.TestCase):
    def test_doubts_against_each_set(self):
        seen = {("broken", True): 0, ("broken", False): 0, ("shut", True): 0, ("shut", False): 0}
        for seed in range(120):
            shelf, _ = random_shelf(seed)
            source = random.Random(seed)
            sets = all_sets(shelf)
            request = source.randrange(len(shelf.requests))
            doubts = [("broken", request, source.choice(all_plans(shelf))) for _ in range(5)]
            trees = [grown_tree(shelf, request, source.choice(sets), (0,) * len(shelf.packages), source.choice)
                     for _ in range(10)]
            doubts += [("shut", request, tree) for tree in trees if tree is not None and is_shut(tree)]
            for doubt in doubts:
                for names in sets[::3]:
                    right = is_right_doubt(shelf, names, doubt)
                    self.assertIs(is_doubt(shelf, names, doubt), right)
                    self.assertFalse(right and is_right(shelf, names))
                    seen[doubt[0], right] += 1
        self.assertGreater(min(seen.values()), 20)


class WrongInputTest(Refusing, unittest.TestCase):
    def test_bad_doubts(self):
        for doubt in BAD_DOUBTS:
            self.refused(BadDoubt, is_doubt, example(), (), doubt)

    def test_limits(self):
        self.assertIs(is_doubt(closed(), (), ("broken", 1, (2, 1))), True)
        self.assertIs(is_doubt(closed(), (), ("shut", 1, deep(6))), False)
        for doubt in (("broken", 2, (2, 1)), ("broken", -1, (2, 1)), ("broken", 1, (3, 1)), ("broken", 1, (2, 1, 0)),
                      ("shut", 2, SHUT_BY_Y), ("shut", 1, deep(7)), ("broken", True, (2, 1)), ("shut", True, SHUT_BY_Y)):
            self.refused(BadDoubt, is_doubt, closed(), (), doubt)

    def test_bad_shelves_and_sets(self):
        for shelf in NO_SHELVES:
            self.assertIsNone(self.refused(BadShelf, is_doubt, shelf, (), ("broken", 0, (2, 1))).part)
        for bounds in BAD_SETS:
            self.refused(BadSet, is_doubt, example(), bounds, ("broken", 0, (2, 1)))

    def test_the_error_that_is_documented_first(self):
        self.refused(BadShelf, is_doubt, None, None, None)
        self.refused(BadSet, is_doubt, example(), None, None)
        self.refused(BadDoubt, is_doubt, example(), (), None)


if __name__ == "__main__":
    unittest.main()
