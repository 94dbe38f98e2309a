"""The cheapest right sets, with their evidence."""

import unittest

from fewbounds.errors import BadShelf
from fewbounds.plans import is_right, plans, set_cost
from fewbounds.shelves import Bound, Shelf
from fewbounds.trees import Bounding, NoBounding, cheapest, is_doubt, is_shut, is_tree

from samples import NO_SHELVES, Refusing
from samples import all_plans, all_sets, example, example_bounds, grown_tree, is_right_doubt, is_right_tree, random_shelf

DONE = ("done",)
BOTH_NEED = {("app", 1): ("lib",), ("app", 2): ("lib",)}
SECOND_BREAKS = [(("app", 2), ("lib", 1)), (("lib", 2), ("app", 2))]


def app_shelf(bounds, breaks=SECOND_BREAKS, requests=(("app",),)):
    return Shelf({"app": 2, "lib": 2}, BOTH_NEED, breaks, requests, bounds)


def ties():
    """A shelf with three right sets of cost 2: ("x",), ("y",) and ("u", "v")."""
    return app_shelf({"u": Bound("app", (2,), "lib", (1,)), "v": Bound("lib", (2,), "app", (2,)),
                      "x": Bound("app", (2,), "lib", (1, 2), cost=2), "y": Bound("lib", (1, 2), "app", (2,), cost=2)})


def shut_one():
    """A shelf on which the cheapest bound leaves the second request without a plan."""
    return app_shelf({"all": Bound("app", (1, 2), "lib", (1, 2)), "odd": Bound("app", (1,), "lib", (2,), cost=4),
                      "two": Bound("app", (2,), "lib", (1, 2), cost=3)}, requests=[("lib",), ("app",)])


def none_right():
    """A shelf without a right set: x is too little, y too much."""
    return app_shelf({"x": Bound("app", (2,), "lib", (1,)), "y": Bound("app", (1, 2), "lib", (1, 2), cost=9)})


def shelves():
    """Shelves of many forms, some with costs that are often the same."""
    for seed in range(120):
        yield random_shelf(seed)[0]
        yield random_shelf(1000 + seed, 2)[0]


def right_rows(shelf):
    """The lists of all right sets, and of those with the least cost."""
    right = [names for names in all_sets(shelf) if is_right(shelf, names)]
    least = min([set_cost(shelf, names) for names in right], default=0)
    return right, [names for names in right if set_cost(shelf, names) == least]


def cheaper(shelf, bounds):
    return [names for names in all_sets(shelf) if set_cost(shelf, names) < set_cost(shelf, bounds)]


def last_tree(shelf, request, names):
    """A tree that is done, and chooses, where it can."""
    return grown_tree(shelf, request, names, (0,) * len(shelf.packages), lambda forms: forms[-1])


def last_doubt(shelf, names):
    """A doubt against a set, of the last request that gives one."""
    doubts = []
    for request in range(len(shelf.requests)):
        found = list(plans(shelf, request, names))
        doubts += [("broken", request, plan) for plan in found if is_right_doubt(shelf, names, ("broken", request, plan))]
        if not found:
            doubts.append(("shut", request, grown_tree(shelf, request, names, (0,) * len(shelf.packages),
                                                       lambda forms: forms[0])))
    return doubts[-1]


def other_answer(shelf, bounds):
    """A Bounding for a right set with the least cost, with the last plans, trees and doubts."""
    requests = range(len(shelf.requests))
    return Bounding(bounds, [list(plans(shelf, request, bounds))[-1] for request in requests],
                    [last_tree(shelf, request, bounds) for request in requests],
                    {names: last_doubt(shelf, names) for names in reversed(cheaper(shelf, bounds))})


class CheapestTest(unittest.TestCase):
    def test_example(self):
        found = cheapest(example())
        self.assertEqual([found.bounds, found.shows(example()),
                          is_doubt(example(), (), ("broken", 0, (2, 1))), is_shut(found.trees[0]),
                          found.doubts == {(): ("broken", 0, (2, 1))}], [("old",), True, True, False, True])

    def test_the_first_one_of_the_same_cost(self):
        self.assertEqual(right_rows(ties())[1], [("x",), ("y",), ("u", "v")])
        self.assertEqual(cheapest(ties()).bounds, ("x",))

    def test_first_by_indices_and_not_by_names(self):
        bound = Bound("app", (2,), "lib", (1, 2), cost=5)
        self.assertEqual(cheapest(app_shelf({"zoo": bound, "ant": -bound, "mid": bound})).bounds, ("zoo",))
        halves = {"z": Bound("app", (1,), "lib", (2,)), "y": Bound("app", (2,), "lib", (1,)),
                  "b": Bound("app", (2,), "lib", (2,)), "a": Bound("app", (2,), "lib", (2,)),
                  "c": Bound("app", (2,), "lib", (1,))}
        self.assertEqual(right_rows(app_shelf(halves))[1], [("y", "b"), ("y", "a"), ("b", "c"), ("a", "c")])
        self.assertEqual(cheapest(app_shelf(halves)).bounds, ("y", "b"))

    def test_doubts_in_their_order(self):
        shelf = app_shelf({"zoo": Bound("app", (1,), "lib", (1,)), "mid": Bound("app", (2,), "lib", (1,)),
                           "big": Bound("app", (1,), "lib", (2,), cost=9),
                           "ant": Bound("app", (2,), "lib", (1, 2), cost=3)})
        found = cheapest(shelf)
        self.assertEqual(found.bounds, ("ant",))
        self.assertEqual(list(found.doubts), [(), ("zoo",), ("mid",), ("zoo", "mid")])

    def test_two_cheap_bounds_before_a_dear_one(self):
        shelf = app_shelf({"x": Bound("app", (2,), "lib", (1, 2), cost=9), "u": Bound("app", (2,), "lib", (1,), cost=4),
                           "v": Bound("app", (2,), "lib", (2,), cost=4)})
        found = cheapest(shelf)
        self.assertEqual((found.bounds, list(found.doubts)), (("u", "v"), [(), ("u",), ("v",)]))

    def test_a_cheaper_set_without_plans_of_a_request(self):
        found = cheapest(shut_one())
        self.assertEqual((found.bounds, found.plans[0]), (("two",), (0, 1)))
        self.assertEqual([(names, doubt[0]) for names, doubt in found.doubts.items()], [((), "broken"), (("all",), "shut")])
        self.assertEqual(found.doubts["all",][1], 1)

    def test_no_right_set(self):
        found = cheapest(none_right())
        self.assertIs(found.__class__, NoBounding)
        self.assertEqual([(names, doubt[0]) for names, doubt in found.doubts.items()],
                         [((), "broken"), (("x",), "broken"), (("y",), "shut"), (("x", "y"), "shut")])

    def test_the_empty_set(self):
        for bounds in ({}, example_bounds()):
            found = cheapest(app_shelf(bounds, []))
            self.assertEqual((found.bounds, found.doubts), ((), {}))
            self.assertIs(found.shows(app_shelf(bounds, [])), True)
        found = cheapest(app_shelf({}))
        self.assertEqual((found.__class__, list(found.doubts)), (NoBounding, [()]))
        self.assertIs(found.shows(app_shelf({})), True)

    def test_requests_without_needs(self):
        shelf = Shelf({"a": 1, "abcdefgh": 3}, {}, [(("a", 1), ("abcdefgh", 2))], [("abcdefgh",), ("a",)], {})
        found = cheapest(shelf)
        self.assertEqual(found, Bounding((), [found.plans[0], (1, 0)],
                                         [("choose", (DONE, DONE, DONE)), ("choose", (DONE,))], {}))

    def test_the_largest_shelf(self):
        names = tuple("abcde")
        bounds = {name: Bound("d", (at % 3 + 1,), "e", (at // 3 + 1,), cost=9) for at, name in enumerate("uvwxyz")}
        breaks = [(("d", at), ("e", version)) for at in (1, 2, 3) for version in (1, 2)]
        shelf = Shelf({name: 3 for name in names}, {}, breaks, [names] * 3, bounds)
        found = cheapest(shelf)
        self.assertEqual((found.bounds, len(found.doubts)), (tuple("uvwxyz"), 63))
        self.assertIs(found.shows(shelf), True)

    def test_against_all_sets(self):
        for shelf in shelves():
            found = cheapest(shelf)
            right, least = right_rows(shelf)
            self.assertIs(found.__class__, Bounding if right else NoBounding)
            if right:
                self.assertEqual(found.bounds, least[0])
                self.assertEqual(list(found.doubts), cheaper(shelf, least[0]))
            else:
                self.assertEqual(list(found.doubts), all_sets(shelf))
            self.assertIs(found.shows(shelf), True)

    def test_the_evidence(self):
        kinds = {"broken": 0, "shut": 0}
        for shelf in shelves():
            found = cheapest(shelf)
            for names, doubt in found.doubts.items():
                self.assertTrue(is_right_doubt(shelf, names, doubt))
                self.assertIs(is_doubt(shelf, names, doubt), True)
                kinds[doubt[0]] += 1
            if isinstance(found, Bounding):
                self.assertEqual([len(found.plans), len(found.trees)], [len(shelf.requests)] * 2)
                for request, (plan, tree) in enumerate(zip(found.plans, found.trees)):
                    self.assertIn(plan, list(plans(shelf, request, found.bounds)))
                    self.assertTrue(is_right_tree(shelf, request, found.bounds, (0,) * len(shelf.packages), tree))
                    self.assertIs(is_tree(shelf, request, found.bounds, tree), True)
                    self.assertIs(is_shut(tree), False)
        self.assertGreater(min(kinds.values()), 100)

    def test_what_is_returned_is_new(self):
        shelf = ties()
        found = cheapest(shelf)
        for row in (found.plans, found.trees, found.doubts):
            row.clear()
        self.assertIs(cheapest(shelf).shows(shelf), True)
        self.assertEqual(shelf, ties())
        cheapest(none_right()).doubts.clear()
        self.assertEqual(len(cheapest(none_right()).doubts), 4)


class AnswerTest(unittest.TestCase):
    def test_attributes(self):
        found = Bounding(bounds=("x",), plans=[(1, 1)], trees=[DONE], doubts={(): ("broken", 0, (1, 1))})
        self.assertEqual((found.bounds, found.plans, found.trees, found.doubts),
                         (("x",), [(1, 1)], [DONE], {(): ("broken", 0, (1, 1))}))
        self.assertEqual(NoBounding(doubts={(): ("shut", 0, DONE)}).doubts, {(): ("shut", 0, DONE)})

    def test_lists_and_dicts_are_copied(self):
        rows, trees, doubts = [(1, 1)], [DONE], {(): ("broken", 0, (1, 1))}
        found, none = Bounding((), rows, trees, doubts), NoBounding(doubts)
        for part in (rows, trees, doubts):
            part.clear()
        self.assertEqual((found.plans, found.trees, found.doubts), ([(1, 1)], [DONE], {(): ("broken", 0, (1, 1))}))
        self.assertEqual(none.doubts, {(): ("broken", 0, (1, 1))})

    def test_the_order_of_a_dict_stays(self):
        doubts = {("x",): ("shut", 0, DONE), (): ("broken", 0, (1, 1))}
        self.assertEqual(list(Bounding((), [], [], doubts).doubts), [("x",), ()])
        self.assertEqual(list(NoBounding(doubts).doubts), [("x",), ()])

    def test_equality_of_boundings(self):
        parts = [("x",), [(1, 1)], [DONE], {(): ("broken", 0, (1, 1))}]
        others = [(), [(1, 2)], [("choose", ())], {(): ("broken", 0, (1, 2))}]
        self.assertTrue(Bounding(*parts) == Bounding(*parts))
        self.assertFalse(Bounding(*parts) != Bounding(*parts))
        for at, other in enumerate(others):
            changed = Bounding(*parts[:at], other, *parts[at + 1:])
            self.assertFalse(Bounding(*parts) == changed)
            self.assertTrue(Bounding(*parts) != changed)
        for at in (1, 2):
            self.assertFalse(Bounding(*parts) == Bounding(*parts[:at], parts[at] * 2, *parts[at + 1:]))
        self.assertFalse(Bounding(*parts) == NoBounding(parts[3]))

    def test_equality_after_a_change(self):
        one, two = cheapest(ties()), cheapest(ties())
        self.assertTrue(one == two)
        two.doubts.clear()
        self.assertFalse(one == two)

    def test_equality_of_no_boundings(self):
        doubts = {(): ("broken", 0, (1, 1)), ("x",): ("shut", 0, DONE)}
        self.assertTrue(NoBounding(doubts) == NoBounding(dict(reversed(list(doubts.items())))))
        self.assertFalse(NoBounding(doubts) != NoBounding(doubts))
        for other in ({}, {(): doubts[()]}, {**doubts, (): ("broken", 0, (1, 2))}):
            self.assertFalse(NoBounding(doubts) == NoBounding(other))
        self.assertFalse(NoBounding(doubts) == Bounding((), [], [], doubts))

    def test_each_class_has_its_methods(self):
        for name in ("__init__", "__eq__", "shows"):
            self.assertIn(name, vars(Bounding))
            self.assertIn(name, vars(NoBounding))


class ShowsTest(Refusing, unittest.TestCase):
    def shown(self, shelf, right, **changes):
        """Change attributes of the right answer and ask it."""
        found = cheapest(shelf)
        for name, value in changes.items():
            self.assertIn(name, vars(found))
            setattr(found, name, value)
        self.assertIs(found.shows(shelf), right)

    def test_others_of_the_same_cost(self):
        for bounds in (("x",), ("y",), ("u", "v")):
            self.assertIs(other_answer(ties(), bounds).shows(ties()), True)

    def test_other_evidence_on_many_shelves(self):
        answers = 0
        for shelf in shelves():
            for bounds in right_rows(shelf)[1]:
                answers += 1
                self.assertIs(other_answer(shelf, bounds).shows(shelf), True)
        self.assertGreater(answers, 100)

    def test_right_sets_that_cost_more(self):
        for shelf in (ties(), shut_one(), example()):
            right, least = right_rows(shelf)
            for bounds in right:
                found = cheapest(shelf)
                trees = [last_tree(shelf, request, bounds) for request in range(len(shelf.requests))]
                found.bounds, found.trees = bounds, trees
                found.plans = [list(plans(shelf, request, bounds))[0] for request in range(len(shelf.requests))]
                self.assertIs(found.shows(shelf), bounds in least)

    def test_another_set(self):
        for bounds in all_sets(ties()):
            self.shown(ties(), bounds == ("x",), bounds=bounds)

    def test_sets_that_are_not_right(self):
        shelf = app_shelf({"u": Bound("app", (2,), "lib", (1,)), "v": Bound("app", (2,), "lib", (2,))})
        self.shown(shelf, False, bounds=(), doubts={})
        self.shown(shelf, False, bounds=("u",), doubts={(): ("broken", 0, (2, 1))})

    def test_other_plans(self):
        for plan in all_plans(ties()):
            self.shown(ties(), plan in ((1, 1), (1, 2)), plans=[plan])
        first = cheapest(shut_one()).plans[0]
        for plan in all_plans(shut_one()):
            self.shown(shut_one(), plan in ((1, 1), (1, 2)), plans=[first, plan])

    def test_plans_of_another_request(self):
        found = cheapest(shut_one())
        self.shown(shut_one(), False, plans=found.plans[::-1])
        self.shown(shut_one(), False, plans=[found.plans[1]] * 2)

    def test_a_plan_that_violates_a_bound(self):
        bounds = {"u": Bound("app", (2,), "lib", (1,))}
        shelf = app_shelf(bounds, SECOND_BREAKS[:1])
        self.shown(shelf, True, plans=[(2, 2)])
        self.shown(shelf, False, plans=[(2, 1)])

    def test_other_trees(self):
        x = ("bound", "x")
        for second, right in ((("choose", (x, x)), True), (x, False), (("choose", (x, DONE)), False),
                              (("choose", (x,)), False), (("choose", (("bound", "u"), x)), False)):
            self.shown(ties(), right, trees=[("choose", (("choose", (DONE, DONE)), second))])

    def test_trees_of_another_request(self):
        found = cheapest(shut_one())
        self.shown(shut_one(), False, trees=found.trees[::-1])
        self.shown(shut_one(), False, trees=[found.trees[1]] * 2)

    def test_other_doubts(self):
        doubts = cheapest(ties()).doubts
        self.assertEqual(list(doubts), [(), ("u",), ("v",)])
        self.shown(ties(), True, doubts=dict(reversed(list(doubts.items()))))
        self.shown(ties(), True, doubts={**doubts, (): ("broken", 0, (2, 2))})
        self.shown(ties(), True, doubts={**doubts, (): ("broken", 0, (2, 1))})
        for doubt in (("broken", 0, (1, 1)), ("broken", 0, (2, 1)), ("broken", 0, (2, 0)), ("shut", 0, DONE),
                      ("shut", 0, ("choose", ())), ("shut", 0, cheapest(ties()).trees[0])):
            self.shown(ties(), False, doubts={**doubts, ("u",): doubt})

    def test_doubts_against_fewer_or_more_sets(self):
        doubts = cheapest(shut_one()).doubts
        for names in doubts:
            rest = {other: doubts[other] for other in doubts if other != names}
            self.shown(shut_one(), False, doubts=rest)
            self.shown(shut_one(), False, doubts={**rest, ("odd",): ("broken", 1, (2, 1))})
        self.assertIs(is_doubt(shut_one(), ("odd",), ("broken", 1, (2, 1))), True)
        self.shown(shut_one(), False, doubts={**doubts, ("odd",): ("broken", 1, (2, 1))})
        self.shown(shut_one(), False, doubts={})

    def test_a_shut_doubt_of_another_request(self):
        doubts = cheapest(shut_one()).doubts
        word, _, tree = doubts["all",]
        self.shown(shut_one(), True, doubts={**doubts, ("all",): (word, 1, tree)})
        self.shown(shut_one(), False, doubts={**doubts, ("all",): (word, 0, tree)})

    def test_no_bounding(self):
        doubts = cheapest(none_right()).doubts
        self.shown(none_right(), True, doubts=dict(reversed(list(doubts.items()))))
        self.shown(none_right(), True, doubts={**doubts, (): ("broken", 0, (2, 1))})
        for names in doubts:
            self.shown(none_right(), False, doubts={other: doubts[other] for other in doubts if other != names})
            self.shown(none_right(), False, doubts={**doubts, names: ("broken", 0, (1, 1))})
        self.shown(none_right(), False, doubts={})
        right = cheapest(ties())
        self.assertIs(NoBounding(right.doubts).shows(ties()), False)

    def test_against_another_shelf(self):
        found = cheapest(example())
        fewer = app_shelf(example_bounds(), [])
        more = app_shelf(example_bounds(), [(("app", 2), ("lib", 1)), (("app", 1), ("lib", 1))])
        dearer = app_shelf({"old": Bound("app", (2,), "lib", (1,), cost=5), "new": Bound("app", (1,), "lib", (2,))},
                           [(("app", 2), ("lib", 1))])
        self.assertEqual([found.shows(shelf) for shelf in (example(), fewer, more, dearer)], [True, False, False, False])
        none = cheapest(more)
        self.assertEqual([none.shows(shelf) for shelf in (example(), fewer, more)], [False, False, True])

    def test_against_a_shelf_of_another_form(self):
        others = (Shelf({"app": 1, "lib": 1}, {}, [], [("app",)], {}), ties(), shut_one(), none_right())
        for shelf in others:
            self.assertIs(cheapest(example()).shows(shelf), False)
            self.assertIs(cheapest(none_right()).shows(shelf), shelf == none_right())

    def test_bad_shelves(self):
        for shelf in NO_SHELVES:
            for found in (cheapest(example()), cheapest(none_right())):
                self.assertIsNone(self.refused(BadShelf, found.shows, shelf).part)
            self.assertIsNone(self.refused(BadShelf, cheapest, shelf).part)


if __name__ == "__main__":
    unittest.main()
