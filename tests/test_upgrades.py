"""Upgrades, what must change, and needless bounds."""

import unittest

from fewbounds.errors import BadPlan, BadRequest, BadSet, BadShelf
from fewbounds.plans import is_broken, plans
from fewbounds.shelves import Bound, Shelf
from fewbounds.upgrades import must_change, needless, upgrade

from samples import BAD_PLANS, BAD_REQUESTS, BAD_SETS, NO_SHELVES, Refusing
from samples import all_plans, all_sets, backwards, example, example_bounds, random_shelf


def good_plans(shelf, request, bounds):
    return [plan for plan in plans(shelf, request, bounds) if not is_broken(shelf, plan)]


def differences(one, two):
    return sum(first != second for first, second in zip(one, two))


def sampled(shelf):
    """Some requests, plans and sets of a shelf, in all combinations."""
    for request in range(len(shelf.requests)):
        for plan in all_plans(shelf)[::7]:
            for names in all_sets(shelf)[::6]:
                yield request, plan, names


class UpgradeTest(unittest.TestCase):
    def test_example(self):
        shelf = example()
        self.assertEqual([upgrade(shelf, 0, (2, 1)), upgrade(shelf, 0, (2, 1), ("new",)),
                          must_change(shelf, 0, (2, 1), ("new",)), needless(shelf, ("old", "new"))],
                         [(1, 1), (1, 1), [], []])

    def test_the_first_one_of_the_same_distance(self):
        shelf = example()
        for plan, best in (((2, 1), (1, 1)), ((0, 0), (1, 1)), ((0, 2), (1, 2)), ((2, 0), (2, 2)), ((1, 0), (1, 1)),
                           ((0, 1), (1, 1)), ((1, 2), (1, 2)), ((2, 2), (2, 2))):
            self.assertEqual(upgrade(shelf, 0, plan), best)

    def test_the_nearest_one_need_not_be_the_first(self):
        shelf = Shelf({"a": 3, "b": 3}, {}, [(("a", 3), ("b", 3))], [("a", "b")], {"x": Bound("a", (3,), "b", (2,))})
        for plan, bounds, best in (((3, 3), (), (1, 3)), ((3, 2), (), (3, 2)), ((3, 2), ("x",), (1, 2)),
                                   ((3, 0), ("x",), (3, 1)), ((0, 3), (), (1, 3)), ((2, 3), (), (2, 3))):
            self.assertEqual(upgrade(shelf, 0, plan, bounds), best)

    def test_packages_that_the_good_plan_does_not_have(self):
        shelf = backwards()
        self.assertEqual([upgrade(shelf, 0, plan) for plan in ((0, 2, 0), (0, 2, 1), (1, 3, 0), (2, 3, 1), (2, 1, 1))],
                         [(0, 2, 0), (0, 2, 0), (1, 1, 0), (1, 3, 1), (2, 1, 0)])

    def test_each_request_has_its_upgrades(self):
        shelf = Shelf({"a": 1, "b": 1}, {}, [], [("a",), ("b",), ("a", "b")], {})
        self.assertEqual([upgrade(shelf, request, (1, 1)) for request in range(3)], [(1, 0), (0, 1), (1, 1)])
        self.assertEqual([must_change(shelf, request, (1, 1)) for request in range(3)], [["b"], ["a"], []])

    def test_distance_counts_packages_and_not_versions(self):
        shelf = Shelf({"a": 3, "b": 3, "c": 3}, {("a", 1): ("b", "c"), ("a", 2): ("b", "c"), ("a", 3): ("b", "c")},
                      [(("a", 1), ("c", 1)), (("a", 1), ("c", 2))], [("a",)],
                      {"x": Bound("a", (2,), "b", (1, 2)), "y": Bound("a", (3,), "c", (2, 3)),
                       "z": Bound("a", (2,), "c", (1, 2))})
        self.assertEqual(upgrade(shelf, 0, (1, 1, 1), ("x", "y", "z")), (1, 1, 3))
        self.assertEqual(upgrade(shelf, 0, (2, 1, 1), ("x", "y", "z")), (3, 1, 1))

    def test_no_good_plan(self):
        shelf = Shelf({"a": 1, "b": 1, "c": 1}, {("a", 1): ("b",)}, [(("a", 1), ("b", 1))], [("a",), ("c",)],
                      {"x": Bound("a", (1,), "b", (1,))})
        for bounds in ((), ("x",)):
            self.assertIsNone(upgrade(shelf, 0, (1, 1, 0), bounds))
            self.assertEqual(must_change(shelf, 0, (1, 1, 0), bounds), ["a", "b", "c"])
        self.assertEqual(upgrade(shelf, 1, (1, 1, 0)), (0, 0, 1))

    def test_against_all_plans(self):
        found = {True: 0, False: 0}
        for seed in range(80):
            shelf, _ = random_shelf(seed)
            for request, plan, names in sampled(shelf):
                good = good_plans(shelf, request, names)
                rows = sorted((differences(plan, other), other) for other in good)
                self.assertEqual(upgrade(shelf, request, plan, names), rows[0][1] if rows else None)
                found[bool(rows)] += 1
        self.assertGreater(min(found.values()), 50)

    def test_without_a_set(self):
        shelf = Shelf({"app": 2, "lib": 2}, {}, [], [("app", "lib")], example_bounds())
        self.assertEqual([upgrade(shelf, 0, (2, 1)), must_change(shelf, 0, (2, 1))], [(2, 1), []])
        self.assertEqual(upgrade(shelf, 0, (2, 1), ("old",)), (1, 1))


class MustChangeTest(unittest.TestCase):
    def test_packages_in_order(self):
        shelf = Shelf({"web": 2, "app": 2, "lib": 2}, {("web", 2): ("lib",)}, [(("web", 1), ("app", 2))],
                      [("web", "app")], {"x": Bound("web", (2,), "app", (1, 2)), "y": Bound("app", (1,), "web", (1,))})
        for plan, bounds, names in (((2, 2, 1), (), []), ((2, 2, 1), ("x",), ["web", "app", "lib"]),
                                    ((1, 2, 0), ("x",), ["app"]), ((0, 0, 0), (), ["web", "app"]),
                                    ((1, 1, 0), ("y",), ["web", "lib"]), ((1, 1, 2), ("x",), ["lib"]),
                                    ((1, 1, 0), ("x", "y"), ["web", "app", "lib"])):
            self.assertEqual(must_change(shelf, 0, plan, bounds), names)

    def test_each_package_may_stay_in_another_good_plan(self):
        self.assertEqual(must_change(example(), 0, (2, 1)), [])
        self.assertEqual(must_change(example(), 0, (2, 1), ("old", "new")), [])

    def test_against_all_plans(self):
        for seed in range(80):
            shelf, _ = random_shelf(seed)
            for request, plan, names in sampled(shelf):
                good = good_plans(shelf, request, names)
                kept = {name for other in good for name, old, new in zip(shelf.packages, plan, other) if old == new}
                self.assertEqual(must_change(shelf, request, plan, names),
                                 [name for name in shelf.packages if name not in kept])

    def test_returned_lists_are_new(self):
        shelf = example()
        must_change(shelf, 0, (0, 0)).clear()
        self.assertEqual(must_change(shelf, 0, (0, 0)), ["app", "lib"])
        needless(shelf, ()).append("old")
        self.assertEqual(needless(shelf, ()), [])


class NeedlessTest(unittest.TestCase):
    def shelf(self):
        needs = {("app", version): ("lib",) for version in (1, 2)}
        return Shelf({"app": 2, "lib": 2, "web": 1}, needs, [], [("app",), ("web",)],
                     {"one": Bound("app", (2,), "lib", (1,)), "both": Bound("lib", (1, 2), "app", (2,)),
                      "two": Bound("app", (2,), "lib", (2,)), "far": Bound("app", (1,), "web", (1,))})

    def test_needless_bounds(self):
        for bounds, names in (((), []), (("one",), []), (("one", "both"), ["one"]), (("one", "two"), []),
                              (("one", "both", "two"), ["one", "both", "two"]), (("far",), ["far"]),
                              (("both", "far"), ["far"]), (("both", "two", "far"), ["two", "far"])):
            self.assertEqual(needless(self.shelf(), bounds), names)

    def test_each_request_counts(self):
        bounds = {"x": Bound("a", (1,), "b", (1,))}
        for requests, names in (([("a",)], ["x"]), ([("a",), ("a", "b")], []), ([("a", "b"), ("b",)], [])):
            self.assertEqual(needless(Shelf({"a": 1, "b": 1}, {}, [], requests, bounds), ("x",)), names)

    def test_broken_plans_count_too(self):
        shelf = Shelf({"a": 1, "b": 1}, {}, [(("a", 1), ("b", 1))], [("a", "b")], {"x": Bound("a", (1,), "b", (1,))})
        self.assertEqual(needless(shelf, ("x",)), [])

    def test_against_the_plans(self):
        found = {True: 0, False: 0}
        for seed in range(60):
            shelf, _ = random_shelf(seed)
            for bounds in all_sets(shelf)[::3]:
                names = needless(shelf, bounds)
                self.assertEqual(names, [name for name in bounds if name in names])
                for name in bounds:
                    others = tuple(other for other in bounds if other != name)
                    same = all(list(plans(shelf, request, others)) == list(plans(shelf, request, bounds))
                               for request in range(len(shelf.requests)))
                    self.assertIs(name in names, same)
                    found[same] += 1
        self.assertGreater(min(found.values()), 50)


class WrongInputTest(Refusing, unittest.TestCase):
    def test_each_condition_of_each_error(self):
        for call in (upgrade, must_change):
            for request in BAD_REQUESTS:
                self.refused(BadRequest, call, example(), request, (1, 1))
            for plan in BAD_PLANS:
                self.refused(BadPlan, call, example(), 0, plan, ("old",))
            for bounds in BAD_SETS:
                self.refused(BadSet, call, example(), 0, (1, 1), bounds)
        for bounds in BAD_SETS:
            self.refused(BadSet, needless, example(), bounds)

    def test_bad_shelves(self):
        for shelf in NO_SHELVES:
            self.assertIsNone(self.refused(BadShelf, upgrade, shelf, 0, (1, 1)).part)
            self.assertIsNone(self.refused(BadShelf, must_change, shelf, 0, (1, 1)).part)
            self.assertIsNone(self.refused(BadShelf, needless, shelf, ()).part)

    def test_the_error_that_is_documented_first(self):
        for call in (upgrade, must_change):
            self.refused(BadShelf, call, None, None, None, None)
            self.refused(BadRequest, call, example(), None, None, None)
            self.refused(BadPlan, call, example(), 0, None, None)
            self.refused(BadSet, call, example(), 0, (1, 1), None)
        self.refused(BadShelf, needless, None, None)


if __name__ == "__main__":
    unittest.main()
