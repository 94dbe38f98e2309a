"""Shelves and values that several tests use."""

import itertools
import random
import reprlib

from fewbounds.plans import allows, is_broken, next_package, plans
from fewbounds.shelves import Bound, Shelf

LETTERS = ("ant", "bee", "cow", "dog", "emu")

# Values of other kinds, none of which is a name, an item, a plan, a set, a pair, a cost or a shelf.
ODD_VALUES = (None, True, False, -1, "", "A", "nine letters", b"app", [], {}, [1], {"app": 1}, object(),
              (None,), ([],), ({},), (True, False), (("app", 1),), int, ...)


class Same:
    """Equal to everything, so that only a check of its kind tells it from a right value."""

    def __eq__(self, other):
        return True

    def __hash__(self):
        return hash("app")


def deep(levels):
    """A tuple in the form of a tree that is this deep, with one tree in each choice."""
    tree = ("done",)
    for _ in range(levels - 1):
        tree = ("choose", (tree,))
    return tree


NO_SHELVES = ODD_VALUES + (Same(), Shelf, "shelf")

# What is no request, set, plan, tree or doubt of the shelf of the examples.
BAD_REQUESTS = ODD_VALUES + (1, 2, "0", (0,), Same())
BAD_SETS = ODD_VALUES + ("old", ["old"], ("old", "old"), ("new", "old"), ("odd",), ("old", None), ("old", []),
                         ("app",), {"old": 1}, (Same(),), (Same(), Same()), (1,), Same())
BAD_PLANS = ODD_VALUES + ((), (1,), (1, 1, 1), (3, 1), (1, 3), (-1, 0), (0, -1), (True, 1), (1, False), (1, None),
                          ("1", 1), [1, 1], {0: 1, 1: 1}, (Same(), 1), Same())
BAD_TREES = ODD_VALUES + (
    "done", (), ["done"], ("Done",), (b"done",), ("done", ()), ("done", "old"), ("done", None), ("odd",), ("odd", "old"),
    ("odd", ()), ("bound",), ["bound", "old"], ("bound", None), ("bound", 0), ("bound", True), ("bound", b"old"),
    ("bound", []), ("bound", {}), ("bound", ()), ("bound", ("old",)), ("bound", "old", "new"), ("choose",),
    ("choose", None), ("choose", 1), ("choose", "done"), ("choose", []), ("choose", {}), ("choose", [("done",)]),
    ("choose", ("done",)), ("choose", ("bound", "old")), ("choose", (("done",), None)), ("choose", (("done",), [])),
    ("choose", (["done"],)), ("choose", ((),)), ("choose", (True,)), ("choose", ({}, ("done",))),
    ("choose", (("choose", (("bound", 1),)), ("done",))), ("choose", (("done",),), ()), ("choose", ("done",), ("done",)),
    (None, ()), ([], ()), ({}, "old"), (True, "old"), (0,), (Same(),), (Same(), "old"), (Same(), ()), ("bound", Same()),
    ("choose", Same()), ("choose", (Same(),)), Same(), deep(7), deep(8), deep(50000),
    ("choose", (("done",), deep(6), ("done",))))
BAD_DOUBTS = ODD_VALUES + (
    "broken", (), ("broken",), ("broken", 0), ("shut", 0), ("shut",), (0, (2, 1)), ("broken", 0, (2, 1), 0),
    ["broken", 0, (2, 1)], {"broken": 0}, ("odd", 0, (2, 1)), ("Shut", 0, ("done",)), (b"broken", 0, (2, 1)),
    (None, 0, (2, 1)), (True, 0, (2, 1)), ([], 0, (2, 1)), ({}, 0, ("done",)), (("broken",), 0, (2, 1)),
    (Same(), 0, (2, 1)), (Same(), 0, ("done",)), Same(), ("shut", 0, (2, 1)), ("broken", 0, ("done",)),
    ("broken", 0, ("choose", ())), ("broken", (2, 1), 0)) + tuple(
        ("broken", request, (2, 1)) for request in BAD_REQUESTS) + tuple(
            ("shut", request, ("done",)) for request in BAD_REQUESTS) + tuple(
                ("broken", 0, plan) for plan in BAD_PLANS) + tuple(("shut", 0, tree) for tree in BAD_TREES)


class Refusing:
    """What test cases need that ask for errors."""

    def refused(self, error, call, *words):
        # Shortened, as what is refused may be deeper than repr can go.
        with self.subTest(call.__name__, words=reprlib.repr(words)), self.assertRaises(error) as caught:
            call(*words)
        self.assertIs(caught.exception.__class__, error)
        return caught.exception


def example_bounds():
    return {"old": Bound("app", (2,), "lib", (1,)), "new": Bound("app", (1,), "lib", (2,), cost=3)}


def example_needs():
    return {("app", 1): ("lib",), ("app", 2): ("lib",)}


def example_breaks():
    return [(("app", 2), ("lib", 1))]


def example():
    """The shelf of the interface's examples."""
    return Shelf({"app": 2, "lib": 2}, example_needs(), example_breaks(), [("app",)], example_bounds())


def backwards():
    """A shelf on which an item needs a package that stands before its own."""
    return Shelf({"app": 2, "lib": 3, "web": 1}, {("lib", 1): ("app",), ("lib", 3): ("web", "app")},
                 [(("lib", 3), ("app", 2))], (("lib",), ("app", "web")),
                 {"a": Bound("lib", (1, 3), "app", (1, 2), cost=9), "b": Bound("app", (1,), "web", (1,))})


def some_versions(source, many):
    return tuple(sorted(source.sample(range(1, many + 1), source.randint(1, many))))


def random_shelf(seed, highest=9):
    """A shelf of any size that [2] to [4] allow, the same one for each seed, with costs up to the highest one."""
    source = random.Random(seed)
    packages = {name: source.randint(1, 3) for name in source.sample(LETTERS, source.randint(2, 5))}
    items = [(name, version) for name in packages for version in range(1, packages[name] + 1)]
    needs = {item: tuple(source.sample([name for name in packages if name != item[0]], source.randint(0, 1)))
             for item in items if source.random() < 0.7}
    pairs = [pair for pair in itertools.permutations(items, 2) if pair[0][0] != pair[1][0]]
    breaks = source.choices(pairs, k=source.randint(0, 5))
    requests = [tuple(sorted(source.sample(list(packages), source.randint(1, 2)), key=list(packages).index))
                for _ in range(source.randint(1, 3))]
    bounds = {}
    for name in source.sample("uvwxyz", source.randint(0, 6)):
        first, second = source.sample(list(packages), 2)
        bounds[name] = Bound(first, some_versions(source, packages[first]), second,
                             some_versions(source, packages[second]), cost=source.randint(1, highest))
    return Shelf(packages, needs, breaks, requests, bounds), breaks


def all_plans(shelf):
    """All plans of a shelf, of any kind, ordered as tuples."""
    return list(itertools.product(*[range(many + 1) for many in shelf.packages.values()]))


def all_sets(shelf):
    """All sets of bounds of a shelf, in the order of [9]."""
    return [names for many in range(len(shelf) + 1) for names in itertools.combinations(shelf.names, many)]


def grown_tree(shelf, request, names, plan, pick):
    """A tree for a plan, by pick's choice among all forms that [7] allows at each place, or None if there is none."""
    forms = [("bound", name) for name in names if not allows(shelf, (name,), plan)]
    package = next_package(shelf, request, plan)
    if package is None:
        forms += [] if is_broken(shelf, plan) else [("done",)]
    else:
        parts = [grown_tree(shelf, request, names, longer, pick) for longer in longer_plans(shelf, plan, package)]
        forms += [] if None in parts else [("choose", tuple(parts))]
    return pick(forms) if forms else None


def longer_plans(shelf, plan, package):
    """The plans that give a package each of its versions."""
    at = list(shelf.packages).index(package)
    return [plan[:at] + (version,) + plan[at + 1:] for version in range(1, shelf.packages[package] + 1)]


def is_right_tree(shelf, request, names, plan, tree):
    """Whether a tuple is one of the forms that [7] allows for a plan."""
    package = next_package(shelf, request, plan)
    if tree[0] == "bound":
        return tree[1] in names and not allows(shelf, (tree[1],), plan)
    if tree[0] == "done":
        return package is None and not is_broken(shelf, plan)
    longer = [] if package is None else longer_plans(shelf, plan, package)
    return bool(longer) and len(longer) == len(tree[1]) and all(
        is_right_tree(shelf, request, names, *row) for row in zip(longer, tree[1]))


def is_right_doubt(shelf, names, doubt):
    """Whether a tuple is a doubt against a set, as [8] says."""
    word, request, evidence = doubt
    if word == "broken":
        return evidence in list(plans(shelf, request, names)) and is_broken(shelf, evidence)
    return is_right_tree(shelf, request, names, (0,) * len(shelf.packages), evidence) and "'done'" not in repr(evidence)
