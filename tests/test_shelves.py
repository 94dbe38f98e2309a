"""The class Shelf."""

import copy
import unittest

from fewbounds.errors import BadName, BadShelf
from fewbounds.shelves import Bound, Shelf

from samples import ODD_VALUES, Same, backwards, example, example_bounds, example_breaks, example_needs

PACKAGES = {"app": 2, "lib": 2}
THREE = {"app": 3, "lib": 1, "web": 2}


def shelf_with(packages=None, needs=None, breaks=(), requests=(("app",),), bounds=None):
    return Shelf(PACKAGES if packages is None else packages, {} if needs is None else needs, breaks, requests,
                 {} if bounds is None else bounds)


class Unhashable:
    __hash__ = None


class PartsTest(unittest.TestCase):
    def refused(self, part, **parts):
        words = {"packages": PACKAGES, "needs": {}, "breaks": [], "requests": [("app",)], "bounds": {}}
        with self.assertRaises(BadShelf) as caught:
            Shelf(**{**words, **parts})
        self.assertIs(caught.exception.__class__, BadShelf)
        self.assertEqual(caught.exception.part, part)

    def test_packages_within_the_limits(self):
        self.assertEqual(shelf_with({"a": 1, "abcdefgh": 3}, requests=[("a",)]).packages, {"a": 1, "abcdefgh": 3})
        five = {"e": 3, "d": 3, "c": 3, "b": 3, "a": 3}
        shelf = shelf_with(five, requests=[("d", "a")])
        self.assertEqual(list(shelf.packages.items()), list(five.items()))

    def test_bad_packages(self):
        for packages in ODD_VALUES + ({"a": 1}, {name: 1 for name in "abcdef"}, [("a", 1), ("b", 1)], Same()):
            with self.subTest(packages):
                self.refused("PACKAGES", packages=packages)
        for name in (None, 1, True, "", "ninechars", "App", "a1", "a-b", "\u00e9", ("app",), b"app", Same()):
            with self.subTest(name):
                self.refused("PACKAGES", packages={"lib": 1, name: 1})
        for many in ODD_VALUES + (0, 4, "1", (1,), Same()):
            with self.subTest(many):
                self.refused("PACKAGES", packages={"app": many, "lib": 1})

    def test_needs_within_the_limits(self):
        needs = {("app", 3): ("web", "lib"), ("web", 1): (), ("lib", 1): ("app",)}
        shelf = shelf_with(THREE, needs)
        self.assertEqual([shelf.needs((name, version)) for name in THREE for version in range(1, THREE[name] + 1)],
                         [(), (), ("web", "lib"), ("app",), (), ()])

    def test_bad_needs(self):
        for needs in ODD_VALUES[:9] + ([], [(("app", 1), ())], (), Same()):
            with self.subTest(needs):
                self.refused("NEEDS", needs=needs)
        keys = (None, "app", 1, True, (), ("app",), ("app", 1, 1), ("app", 0), ("app", 3), ("web", 1), ("app", True),
                ("app", "1"), ("app", None), (1, "app"), (("app",), 1), (Same(), 1), ("app", Same()), Same())
        for key in keys:
            with self.subTest(key):
                self.refused("NEEDS", needs={key: ()})
        values = (None, True, "lib", ["lib"], {"lib": 1}, ("app",), ("web",), ("lib", "lib"), ("lib", "app"), (1,),
                  ([],), (None,), (("lib", 1),), (Same(),), (Unhashable(),))
        for value in values:
            with self.subTest(value):
                self.refused("NEEDS", needs={("app", 1): value})

    def test_breaks_within_the_limits(self):
        pair = (("app", 1), ("lib", 2))
        for breaks in ([], (), [pair], (pair, pair), [pair[::-1], pair, pair]):
            shelf = shelf_with(breaks=breaks)
            self.assertEqual(shelf.breaks, [pair] if breaks else [])

    def test_breaks_are_ordered_by_the_packages_of_the_shelf(self):
        packages = {"web": 1, "app": 2, "lib": 1}
        breaks = [(("lib", 1), ("app", 2)), (("lib", 1), ("app", 1)), (("app", 2), ("web", 1)), (("lib", 1), ("web", 1))]
        self.assertEqual(shelf_with(packages, breaks=breaks).breaks,
                         [(("web", 1), ("app", 2)), (("web", 1), ("lib", 1)), (("app", 1), ("lib", 1)),
                          (("app", 2), ("lib", 1))])

    def test_bad_breaks(self):
        app, lib = ("app", 1), ("lib", 1)
        for breaks in ODD_VALUES[:8] + ({}, {(app, lib): 1}, "ab", 1, Same(), {(app, lib)}):
            with self.subTest(breaks):
                self.refused("BREAKS", breaks=breaks)
        pairs = (None, True, "ab", (), (app,), (app, lib, lib), [app, lib], (list(app), lib), (app, ("app", 2)),
                 (app, app), (app, ("lib", 0)), (app, ("lib", 3)), (("app", True), lib), (app, ("lib", True)),
                 (app, ("web", 1)), (app, ("lib", "1")), (app, ("lib",)), (app, (Same(), 1)), (Same(), Same()),
                 (app, None), ((Unhashable(), 1), lib))
        for pair in pairs:
            with self.subTest(pair):
                self.refused("BREAKS", breaks=[pair])
                self.refused("BREAKS", breaks=((app, lib), pair))

    def test_requests_within_the_limits(self):
        for requests in ([("lib",)], (("app", "lib"),), [("lib",), ("app",), ("app", "lib")], [("app",), ("app",)]):
            self.assertEqual(shelf_with(requests=requests).requests, list(requests))

    def test_bad_requests(self):
        for requests in ODD_VALUES + ((), [("app",)] * 4, {("app",): 1}, ("app",), "app", 1, Same()):
            with self.subTest(requests):
                self.refused("REQUESTS", requests=requests)
        values = (None, True, "app", (), ["app"], ("web",), ("lib", "app"), ("app", "app"), ("app", "lib", "app"),
                  (1,), (True,), (None,), ([],), (("app", 1),), (Same(),), (Same(), Same()), {"app": 1})
        for request in values:
            with self.subTest(request):
                self.refused("REQUESTS", requests=[request])
                self.refused("REQUESTS", requests=(("app",), request))

    def test_bounds_within_the_limits(self):
        bound = Bound("lib", (1, 2), "app", (1,), cost=9)
        self.assertEqual(len(shelf_with()), 0)
        six = {name: bound for name in ("a", "abcdefgh", "app", "lib", "x", "b")}
        shelf = shelf_with(bounds=six)
        self.assertEqual((len(shelf), shelf.names), (6, list(six)))

    def test_bad_bounds(self):
        bound = Bound("app", (1,), "lib", (2,))
        for bounds in ODD_VALUES[:9] + ([], [bound], ("a", bound), {name: bound for name in "abcdefg"}, bound, Same()):
            with self.subTest(bounds):
                self.refused("BOUNDS", bounds=bounds)
        for name in (None, 1, True, "", "ninechars", "Old", "a1", "\u00e9", ("a",), b"a", Same()):
            with self.subTest(name):
                self.refused("BOUNDS", bounds={"old": bound, name: bound})
        values = ODD_VALUES + (Bound("web", (1,), "lib", (1,)), Bound("app", (1,), "web", (1,)),
                               Bound("app", (3,), "lib", (1,)), Bound("app", (1,), "lib", (1, 3)), Same())
        for value in values:
            with self.subTest(value):
                self.refused("BOUNDS", bounds={"old": value})

    def test_the_error_that_is_documented_first(self):
        parts = (("packages", {}), ("needs", None), ("breaks", None), ("requests", None), ("bounds", None))
        for at, (name, _) in enumerate(parts):
            with self.subTest(name):
                self.refused(name.upper(), **dict(parts[at:]))


class ShelfTest(unittest.TestCase):
    def test_example(self):
        shelf = example()
        self.assertEqual([shelf.needs(("lib", 1)), "old" in shelf, len(shelf),
                          shelf["old"] == -Bound("lib", (1,), "app", (2,))], [(), True, 2, True])

    def test_parameters_have_their_names(self):
        self.assertEqual(example(), Shelf(packages=PACKAGES, needs=example_needs(), breaks=example_breaks(),
                                          requests=[("app",)], bounds=example_bounds()))

    def test_properties_are_in_the_order_of_the_shelf(self):
        shelf = backwards()
        self.assertEqual(list(shelf.packages.items()), [("app", 2), ("lib", 3), ("web", 1)])
        self.assertEqual(shelf.requests, [("lib",), ("app", "web")])
        self.assertEqual(shelf.names, ["a", "b"])
        self.assertIs(shelf.packages.__class__, dict)
        turned = shelf_with({"lib": 2, "app": 2}, bounds=dict(reversed(list(example_bounds().items()))))
        self.assertEqual((list(turned.packages), turned.names), (["lib", "app"], ["new", "old"]))

    def test_properties_cannot_be_set(self):
        for name in ("packages", "requests", "names"):
            with self.assertRaises(AttributeError):
                setattr(example(), name, None)

    def test_needs(self):
        shelf = backwards()
        self.assertEqual([shelf.needs(("lib", version)) for version in (1, 2, 3)], [("app",), (), ("web", "app")])

    def test_needs_of_what_is_no_item(self):
        values = ODD_VALUES + (("app", 0), ("app", 3), ("web", 1), ("app", True), ("lib", False), ["app", 1],
                               ("app",), ("app", 1, 1), ("app", "1"), "app", ([], 1), (Same(), 1), ("app", Same()),
                               ("old", 1), Same())
        for value in values:
            with self.subTest(value), self.assertRaises(BadName) as caught:
                example().needs(value)
            self.assertIs(caught.exception.__class__, BadName)

    def test_bounds_by_name(self):
        bounds = example_bounds()
        self.assertEqual([example()[name] == bounds[name] for name in ("old", "new")], [True, True])

    def test_what_is_no_name_of_a_bound(self):
        for value in ODD_VALUES + ("app", "olds", "Old", ("old",), 0, 1, Same(), Unhashable()):
            with self.subTest(value):
                self.assertIs(value in example(), False)
                with self.assertRaises(BadName):
                    example()[value]

    def test_in_and_len(self):
        self.assertIs("new" in example(), True)
        self.assertEqual([len(example()), len(shelf_with())], [2, 0])

    def test_arguments_are_neither_modified_nor_kept(self):
        parts = [dict(PACKAGES), example_needs(), example_breaks(), [("app",)], example_bounds()]
        before = copy.deepcopy(parts)
        shelf = Shelf(*parts)
        self.assertEqual(parts, before)
        for part in parts:
            part.clear()
        self.assertEqual(shelf, example())
        self.assertEqual((shelf.packages, shelf.requests, shelf.names), (PACKAGES, [("app",)], ["old", "new"]))

    def test_what_is_returned_is_new(self):
        shelf = example()
        shelf.packages.clear()
        shelf.requests.clear()
        shelf.names.clear()
        shelf.breaks.clear()
        self.assertEqual(shelf, example())
        self.assertEqual((shelf.packages, shelf.requests, shelf.names), (PACKAGES, [("app",)], ["old", "new"]))

    def test_methods_stand_in_the_class_itself(self):
        for name in ("__init__", "packages", "requests", "names", "needs", "__getitem__", "__contains__", "__len__",
                     "__eq__"):
            self.assertIn(name, vars(Shelf))
        self.assertEqual(Shelf.__module__, "fewbounds.shelves")


class EqualityTest(unittest.TestCase):
    def same(self, one, two):
        self.assertIs(one == two, True)
        self.assertIs(one != two, False)

    def differ(self, one, two):
        self.assertIs(one == two, False)
        self.assertIs(one != two, True)

    def test_equal_shelves(self):
        self.same(example(), example())
        self.same(shelf_with(requests=[("app",)]), shelf_with(requests=(("app",),)))

    def test_needs_in_another_order(self):
        self.same(shelf_with(needs=example_needs()), shelf_with(needs=dict(reversed(list(example_needs().items())))))

    def test_needs_of_nothing_may_be_left_out(self):
        self.same(shelf_with(needs={("app", 1): ()}), shelf_with())

    def test_needs_are_compared_as_tuples(self):
        self.differ(shelf_with(THREE, {("app", 1): ("lib", "web")}), shelf_with(THREE, {("app", 1): ("web", "lib")}))
        self.differ(shelf_with(needs={("app", 1): ("lib",)}), shelf_with(needs={("app", 2): ("lib",)}))
        self.differ(shelf_with(needs={("app", 1): ("lib",)}), shelf_with())

    def test_breaks_in_any_order_and_more_than_once(self):
        one, two = (("app", 1), ("lib", 1)), (("app", 2), ("lib", 1))
        shelf = shelf_with(breaks=[one, two])
        self.same(shelf, shelf_with(breaks=(two[::-1], one, one[::-1], two)))
        self.differ(shelf, shelf_with(breaks=[one]))
        self.differ(shelf, shelf_with(breaks=[one, (("app", 1), ("lib", 2))]))

    def test_packages(self):
        self.differ(shelf_with({"app": 2, "lib": 2}), shelf_with({"lib": 2, "app": 2}))
        self.differ(shelf_with({"app": 2, "lib": 2}), shelf_with({"app": 2, "lib": 1}))
        self.differ(shelf_with({"app": 2, "lib": 2}), shelf_with({"app": 2, "web": 2}))

    def test_requests(self):
        self.differ(shelf_with(requests=[("app",), ("lib",)]), shelf_with(requests=[("lib",), ("app",)]))
        self.differ(shelf_with(requests=[("app",)]), shelf_with(requests=[("app",), ("app",)]))

    def test_bounds(self):
        bounds = example_bounds()
        self.differ(shelf_with(bounds=bounds), shelf_with(bounds=dict(reversed(list(bounds.items())))))
        self.differ(shelf_with(bounds=bounds), shelf_with(bounds={"old": bounds["old"]}))
        self.differ(shelf_with(bounds={"old": bounds["old"]}), shelf_with(bounds={"old": bounds["new"]}))
        self.differ(shelf_with(bounds={"old": bounds["old"]}), shelf_with(bounds={"old": -bounds["old"]}))
        self.differ(shelf_with(bounds={"old": bounds["old"]}), shelf_with(bounds={"odd": bounds["old"]}))


if __name__ == "__main__":
    unittest.main()
