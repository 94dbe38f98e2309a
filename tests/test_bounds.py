"""The class Bound."""

import unittest

from fewbounds.errors import BadBound
from fewbounds.shelves import Bound

from samples import ODD_VALUES, Same


class BoundTest(unittest.TestCase):
    def refused(self, *words, **more):
        with self.assertRaises(BadBound) as caught:
            Bound(*words, **more)
        self.assertIs(caught.exception.__class__, BadBound)

    def test_properties(self):
        bound = Bound("app", (1, 3), "lib", (2,), cost=4)
        self.assertEqual((bound.first, bound.versions, bound.second, bound.others, bound.cost),
                         ("app", (1, 3), "lib", (2,), 4))
        self.assertIs(bound.cost.__class__, int)

    def test_cost_is_1_by_default_and_keyword_only(self):
        self.assertEqual(Bound("app", (1,), "lib", (2,)).cost, 1)
        with self.assertRaises(TypeError):
            Bound("app", (1,), "lib", (2,), 1)

    def test_parameters_have_their_names(self):
        bound = Bound(first="app", versions=(1,), second="lib", others=(2,), cost=2)
        self.assertEqual(bound, Bound("app", (1,), "lib", (2,), cost=2))

    def test_properties_cannot_be_set(self):
        bound = Bound("app", (1,), "lib", (2,))
        for name in ("first", "versions", "second", "others", "cost"):
            with self.assertRaises(AttributeError):
                setattr(bound, name, getattr(bound, name))

    def test_limits_that_are_allowed(self):
        for versions in ((1,), (3,), (1, 2), (2, 3), (1, 2, 3)):
            self.assertEqual(Bound("a", versions, "abcdefgh", versions, cost=9).others, versions)
        self.assertEqual(Bound("z", (1,), "a", (1,), cost=1).first, "z")

    def test_bad_names(self):
        words = ODD_VALUES + ("ninechars", "App", "a1", "a b", "a_b", "app\n", "\u00e9", "\u0430", ("app",), Same())
        for word in words:
            with self.subTest(word):
                self.refused(word, (1,), "lib", (1,))
                self.refused("lib", (1,), word, (1,))

    def test_equal_names(self):
        self.refused("app", (1,), "app", (2,))

    def test_bad_versions(self):
        values = ODD_VALUES + ((), (0,), (4,), (-1,), (1, 4), (0, 1), (2, 1), (1, 1), (1, 2, 2), (3, 2, 1),
                               (1, 2, 3, 4), (True,), (1, True), (1, "2"), ("1",), (None, 1), [1, 2], {1: 2}, 1, "1",
                               (Same(),), range(1, 3))
        for value in values:
            with self.subTest(value):
                self.refused("app", value, "lib", (1,))
                self.refused("app", (1,), "lib", value)

    def test_bad_costs(self):
        for cost in ODD_VALUES + (0, 10, "1", (1,), Same()):
            with self.subTest(cost):
                self.refused("app", (1,), "lib", (1,), cost=cost)

    def test_minus_exchanges_the_sides(self):
        bound = Bound("app", (1, 3), "lib", (2,), cost=4)
        self.assertEqual(-bound, Bound("lib", (2,), "app", (1, 3), cost=4))
        self.assertEqual(bound, Bound("app", (1, 3), "lib", (2,), cost=4))
        self.assertEqual(-(-bound), bound)
        self.assertIs((-bound).__class__, Bound)

    def test_equality_compares_all_five(self):
        bound = Bound("app", (1,), "lib", (1,))
        self.assertTrue(bound == Bound("app", (1,), "lib", (1,), cost=1))
        self.assertFalse(bound != Bound("app", (1,), "lib", (1,)))
        others = (Bound("web", (1,), "lib", (1,)), Bound("app", (2,), "lib", (1,)), Bound("app", (1,), "web", (1,)),
                  Bound("app", (1,), "lib", (1, 2)), Bound("app", (1,), "lib", (1,), cost=2), -bound)
        for other in others:
            self.assertFalse(bound == other)
            self.assertTrue(bound != other)

    def test_methods_stand_in_the_class_itself(self):
        for name in ("__init__", "first", "versions", "second", "others", "cost", "__neg__", "__eq__"):
            self.assertIn(name, vars(Bound))
        self.assertEqual(Bound.__module__, "fewbounds.shelves")


if __name__ == "__main__":
    unittest.main()
