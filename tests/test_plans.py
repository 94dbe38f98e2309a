"""Plans of requests, broken and allowed plans, right sets and costs."""

import unittest

from fewbounds import plans as module
from fewbounds.errors import BadPlan, BadRequest, BadSet, BadShelf
from fewbounds.plans import allows, is_broken, is_right, next_package, plans, set_cost
from fewbounds.shelves import Bound, Shelf

from samples import BAD_PLANS, BAD_REQUESTS, BAD_SETS, NO_SHELVES, Refusing
from samples import all_plans, all_sets, backwards, example, random_shelf


def is_wanted(shelf, request, plan, package):
    items = [(name, version) for name, version in zip(shelf.packages, plan) if version]
    return package in shelf.requests[request] or any(package in shelf.needs(item) for item in items)


def first_missing(shelf, request, plan):
    missing = [name for name, version in zip(shelf.packages, plan)
               if not version and is_wanted(shelf, request, plan, name)]
    return missing[0] if missing else None


def is_reached(shelf, request, plan):
    """Walk from the empty plan towards a plan; this needs no search, as each step is given by the plan."""
    names = list(shelf.packages)
    now = [0] * len(names)
    while (package := first_missing(shelf, request, tuple(now))) is not None:
        at = names.index(package)
        if plan[at] == 0:
            return False
        now[at] = plan[at]
    return tuple(now) == plan


def is_violated(shelf, name, plan):
    bound = shelf[name]
    at = dict(zip(shelf.packages, plan))
    return any(at[bound.first] == one and at[bound.second] == two for one in bound.versions for two in bound.others)


def breaks_with(shelf, breaks, plan):
    items = set(zip(shelf.packages, plan))
    return any(set(pair) <= items for pair in breaks)


def listed_plans(*words):
    return list(plans(*words))


class ExampleTest(unittest.TestCase):
    def test_example(self):
        shelf = example()
        self.assertEqual([list(plans(shelf, 0)), list(plans(shelf, 0, ("old", "new"))),
                          next_package(shelf, 0, (2, 0)), is_broken(shelf, (2, 1)), is_right(shelf, ("old",))],
                         [[(1, 1), (1, 2), (2, 1), (2, 2)], [(1, 1), (2, 2)], "lib", True, True])

    def test_functions_stand_in_the_file_itself(self):
        for name in ("plans", "next_package", "is_broken", "allows", "is_right", "set_cost"):
            self.assertEqual(getattr(module, name).__module__, "fewbounds.plans")

    def test_parameters_have_their_names(self):
        shelf = example()
        self.assertEqual(list(plans(shelf=shelf, request=0, bounds=("old",))), [(1, 1), (1, 2), (2, 2)])
        self.assertEqual(next_package(shelf=shelf, request=0, plan=(0, 0)), "app")
        self.assertIs(is_broken(shelf=shelf, plan=(1, 1)), False)
        self.assertIs(allows(shelf=shelf, bounds=(), plan=(1, 1)), True)
        self.assertIs(is_right(shelf=shelf, bounds=()), False)
        self.assertEqual(set_cost(shelf=shelf, bounds=()), 0)


class PlansTest(unittest.TestCase):
    def test_plans_are_ordered_as_tuples_and_not_as_found(self):
        self.assertEqual(list(plans(backwards(), 0)), [(0, 2, 0), (1, 1, 0), (1, 3, 1), (2, 1, 0), (2, 3, 1)])
        self.assertEqual(list(plans(backwards(), 1)), [(1, 0, 1), (2, 0, 1)])

    def test_plans_that_a_set_allows(self):
        self.assertEqual(list(plans(backwards(), 0, ("a",))), [(0, 2, 0)])
        self.assertEqual(list(plans(backwards(), 1, ("a",))), [(1, 0, 1), (2, 0, 1)])
        self.assertEqual(list(plans(backwards(), 0, ("b",))), [(0, 2, 0), (1, 1, 0), (2, 1, 0), (2, 3, 1)])

    def test_broken_plans_are_plans(self):
        self.assertIn((2, 3, 1), list(plans(backwards(), 0)))

    def test_only_packages_that_are_wanted_on_the_way_get_a_version(self):
        shelf = Shelf({"a": 1, "b": 2, "c": 1, "d": 2}, {("b", 2): ("c",), ("c", 1): ("d",), ("d", 2): ("b",)}, [],
                      [("b",), ("d",)], {})
        self.assertEqual(list(plans(shelf, 0)), [(0, 1, 0, 0), (0, 2, 1, 1), (0, 2, 1, 2)])
        self.assertEqual(list(plans(shelf, 1)), [(0, 0, 0, 1), (0, 1, 0, 2), (0, 2, 1, 2)])

    def test_no_plan_if_all_violate_a_bound(self):
        shelf = Shelf({"a": 1, "b": 1}, {("a", 1): ("b",)}, [], [("a",)], {"x": Bound("a", (1,), "b", (1,))})
        self.assertEqual([list(plans(shelf, 0)), list(plans(shelf, 0, ("x",)))], [[(1, 1)], []])

    def test_largest_shelf(self):
        shelf = Shelf({name: 3 for name in "abcde"}, {}, [], [tuple("abcde")], {})
        found = list(plans(shelf, 0))
        self.assertEqual((len(found), found[0], found[-1]), (243, (1,) * 5, (3,) * 5))

    def test_values_are_tuples_of_integers(self):
        for plan in plans(example(), 0):
            self.assertIs(plan.__class__, tuple)
            self.assertEqual([version.__class__ for version in plan], [int, int])

    def test_is_a_generator(self):
        found = plans(example(), 0)
        self.assertIs(iter(found), found)
        self.assertEqual([next(found), next(found)], [(1, 1), (1, 2)])

    def test_against_a_walk_to_each_plan(self):
        for seed in range(150):
            shelf, _ = random_shelf(seed)
            for request in range(len(shelf.requests)):
                wanted = [plan for plan in all_plans(shelf) if is_reached(shelf, request, plan)]
                self.assertEqual(list(plans(shelf, request)), wanted)
                for names in all_sets(shelf)[::5]:
                    rest = [plan for plan in wanted if not any(is_violated(shelf, name, plan) for name in names)]
                    self.assertEqual(list(plans(shelf, request, names)), rest)

    def test_errors_come_when_the_first_item_is_requested(self):
        for words, error in (((None, 0), BadShelf), ((example(), 1), BadRequest), ((example(), 0, ["old"]), BadSet)):
            found = plans(*words)
            with self.assertRaises(error):
                next(found)


class NextTest(unittest.TestCase):
    def test_next_packages(self):
        shelf = backwards()
        for request, plan, name in ((0, (0, 0, 0), "lib"), (0, (0, 1, 0), "app"), (0, (0, 3, 0), "app"),
                                    (0, (1, 3, 0), "web"), (0, (1, 3, 1), None), (0, (0, 2, 0), None),
                                    (1, (0, 0, 0), "app"), (1, (2, 0, 0), "web"), (1, (0, 0, 1), "app")):
            self.assertEqual(next_package(shelf, request, plan), name)

    def test_plan_that_is_none_of_the_request(self):
        self.assertEqual(next_package(backwards(), 1, (1, 3, 0)), "web")
        self.assertEqual(next_package(backwards(), 0, (2, 0, 1)), "lib")
        self.assertIsNone(next_package(backwards(), 1, (1, 2, 1)))

    def test_against_the_definition(self):
        for seed in range(60):
            shelf, _ = random_shelf(seed)
            for request in range(len(shelf.requests)):
                for plan in all_plans(shelf)[::3]:
                    self.assertEqual(next_package(shelf, request, plan), first_missing(shelf, request, plan))


class BrokenTest(unittest.TestCase):
    def test_broken_plans(self):
        shelf = backwards()
        for plan, broken in (((2, 3, 0), True), ((2, 3, 1), True), ((1, 3, 1), False), ((2, 2, 1), False),
                             ((0, 0, 0), False), ((2, 0, 0), False)):
            self.assertIs(is_broken(shelf, plan), broken)

    def test_pairs_in_either_order_and_more_than_once(self):
        pair = (("app", 1), ("lib", 1))
        for breaks in ([pair], [pair[::-1]], (pair, pair, pair[::-1])):
            shelf = Shelf({"app": 1, "lib": 2}, {}, breaks, [("app",)], {})
            self.assertEqual([plan for plan in all_plans(shelf) if is_broken(shelf, plan)], [(1, 1)])

    def test_against_the_pairs(self):
        for seed in range(60):
            shelf, breaks = random_shelf(seed)
            for plan in all_plans(shelf)[::2]:
                self.assertIs(is_broken(shelf, plan), breaks_with(shelf, breaks, plan))


class AllowedTest(unittest.TestCase):
    def test_allowed_plans(self):
        shelf = example()
        for bounds, plan, allowed in (((), (2, 1), True), (("old",), (2, 1), False), (("old",), (1, 2), True),
                                      (("new",), (1, 2), False), (("old", "new"), (1, 2), False),
                                      (("old", "new"), (0, 1), True), (("old", "new"), (2, 0), True),
                                      (("old", "new"), (0, 0), True)):
            self.assertIs(allows(shelf, bounds, plan), allowed)

    def test_both_sides_with_several_versions(self):
        shelf = Shelf({"app": 3, "lib": 3}, {}, [], [("app",)], {"x": Bound("lib", (1, 3), "app", (2, 3))})
        refused = [plan for plan in all_plans(shelf) if not allows(shelf, ("x",), plan)]
        self.assertEqual(refused, [(2, 1), (2, 3), (3, 1), (3, 3)])

    def test_against_the_bounds(self):
        for seed in range(40):
            shelf, _ = random_shelf(seed)
            for names in all_sets(shelf)[::4]:
                for plan in all_plans(shelf)[::5]:
                    violated = any(is_violated(shelf, name, plan) for name in names)
                    self.assertIs(allows(shelf, names, plan), not violated)


class RightTest(unittest.TestCase):
    def test_right_sets(self):
        self.assertEqual([is_right(example(), names) for names in all_sets(example())], [False, True, False, True])

    def test_a_request_without_an_allowed_plan(self):
        bounds = {"x": Bound("a", (1,), "b", (1,))}
        shelf = Shelf({"a": 1, "b": 1}, {("a", 1): ("b",)}, [], [("b",), ("a",)], bounds)
        self.assertEqual([is_right(shelf, ()), is_right(shelf, ("x",))], [True, False])

    def test_each_request_counts(self):
        shelf = Shelf({"a": 2, "b": 1}, {("a", 2): ("b",)}, [(("a", 2), ("b", 1))], [("b",), ("b",), ("a",)], {})
        self.assertIs(is_right(shelf, ()), False)

    def test_broken_plans_that_are_of_no_request_do_not_count(self):
        shelf = Shelf({"a": 1, "b": 1}, {}, [(("a", 1), ("b", 1))], [("a",), ("b",)], {})
        self.assertIs(is_right(shelf, ()), True)

    def test_against_the_definition(self):
        rights = 0
        for seed in range(60):
            shelf, breaks = random_shelf(seed)
            for names in all_sets(shelf)[::3]:
                found = [list(plans(shelf, request, names)) for request in range(len(shelf.requests))]
                broken = any(breaks_with(shelf, breaks, plan) for row in found for plan in row)
                self.assertIs(is_right(shelf, names), all(found) and not broken)
                rights += is_right(shelf, names)
        self.assertGreater(rights, 50)

    def test_costs(self):
        self.assertEqual([set_cost(example(), names) for names in all_sets(example())], [0, 1, 3, 4])
        self.assertEqual(set_cost(backwards(), ("a", "b")), 10)
        bound = Bound("a", (1,), "b", (1,), cost=9)
        shelf = Shelf({"a": 1, "b": 1}, {}, [], [("a",)], {name: bound for name in "uvwxyz"})
        self.assertEqual(set_cost(shelf, tuple("uvwxyz")), 54)


class WrongInputTest(Refusing, unittest.TestCase):
    def calls(self):
        """Each function with right arguments behind the shelf, and the errors of these, in order."""
        return ((listed_plans, (0, ("old",)), (BadRequest, BadSet)), (next_package, (0, (1, 1)), (BadRequest, BadPlan)),
                (is_broken, ((1, 1),), (BadPlan,)), (allows, (("old",), (1, 1)), (BadSet, BadPlan)),
                (is_right, (("old",),), (BadSet,)), (set_cost, (("old",),), (BadSet,)))

    def test_each_condition_of_each_error(self):
        values = {BadRequest: BAD_REQUESTS, BadSet: BAD_SETS, BadPlan: BAD_PLANS}
        for call, rest, errors in self.calls():
            call(example(), *rest)
            for at, error in enumerate(errors):
                for value in values[error]:
                    self.refused(error, call, example(), *rest[:at], value, *rest[at + 1:])

    def test_bad_shelves(self):
        for call, rest, _ in self.calls():
            for value in NO_SHELVES:
                self.assertIsNone(self.refused(BadShelf, call, value, *rest).part)

    def test_the_error_that_is_documented_first(self):
        for call, rest, errors in self.calls():
            self.refused(BadShelf, call, None, *[None for _ in rest])
            for at, error in enumerate(errors):
                self.refused(error, call, example(), *rest[:at], *[None for _ in rest[at:]])

    def test_limits_of_requests(self):
        self.assertEqual(next_package(backwards(), 1, (1, 0, 0)), "web")
        for request in (-1, 2, False):
            self.refused(BadRequest, next_package, backwards(), request, (1, 0, 0))

    def test_sets_in_the_order_of_the_shelf(self):
        shelf = Shelf({"a": 1, "b": 1}, {}, [], [("a",)],
                      {name: Bound("a", (1,), "b", (1,)) for name in ("zoo", "ant", "mid")})
        self.assertEqual(set_cost(shelf, ("zoo", "mid")), 2)
        for names in (("ant", "zoo"), ("mid", "ant"), ("zoo", "ant", "mid", "zoo")):
            self.refused(BadSet, set_cost, shelf, names)

    def test_limits_of_plans(self):
        shelf = backwards()
        self.assertIs(is_broken(shelf, (2, 3, 1)), True)
        for plan in ((3, 3, 1), (2, 4, 1), (2, 3, 2), (2, 3), (2, 3, 1, 0)):
            self.refused(BadPlan, is_broken, shelf, plan)

    def test_what_is_refused_changes_nothing(self):
        shelf = example()
        for call, rest, errors in self.calls():
            for at, error in enumerate(errors):
                self.refused(error, call, shelf, *rest[:at], None, *rest[at + 1:])
        self.assertEqual(shelf, example())


if __name__ == "__main__":
    unittest.main()
