"""Shelves and values that several tests use."""

import itertools
import random

from fewbounds.shelves import Bound, Shelf

LETTERS = ("ant", "bee", "cow", "dog", "emu")

# Values of other kinds, none of which is a name, an item, a plan, a set, a pair, a cost or a shelf.
ODD_VALUES = (None, True, False, -1, "", "A", "nine letters", b"app", [], {}, [1], {"app": 1}, object(),
              (None,), ([],), ({},), (True, False), (("app", 1),), int, ...)


class Same:
    """Equal to everything, so that only a check of its kind tells it from a right value."""

    def __eq__(self, other):
        return True

    def __hash__(self):
        return hash("app")


def example_bounds():
    return {"old": Bound("app", (2,), "lib", (1,)), "new": Bound("app", (1,), "lib", (2,), cost=3)}


def example_needs():
    return {("app", 1): ("lib",), ("app", 2): ("lib",)}


def example_breaks():
    return [(("app", 2), ("lib", 1))]


def example():
    """The shelf of the interface's examples."""
    return Shelf({"app": 2, "lib": 2}, example_needs(), example_breaks(), [("app",)], example_bounds())


def backwards():
    """A shelf on which an item needs a package that stands before its own."""
    return Shelf({"app": 2, "lib": 3, "web": 1}, {("lib", 1): ("app",), ("lib", 3): ("web", "app")},
                 [(("lib", 3), ("app", 2))], (("lib",), ("app", "web")),
                 {"a": Bound("lib", (1, 3), "app", (1, 2), cost=9), "b": Bound("app", (1,), "web", (1,))})


def some_versions(source, many):
    return tuple(sorted(source.sample(range(1, many + 1), source.randint(1, many))))


def random_shelf(seed):
    """A shelf of any size that [2] to [4] allow, the same one for each seed."""
    source = random.Random(seed)
    packages = {name: source.randint(1, 3) for name in source.sample(LETTERS, source.randint(2, 5))}
    items = [(name, version) for name in packages for version in range(1, packages[name] + 1)]
    needs = {item: tuple(source.sample([name for name in packages if name != item[0]], source.randint(0, 1)))
             for item in items if source.random() < 0.7}
    pairs = [pair for pair in itertools.permutations(items, 2) if pair[0][0] != pair[1][0]]
    breaks = source.choices(pairs, k=source.randint(0, 5))
    requests = [tuple(sorted(source.sample(list(packages), source.randint(1, 2)), key=list(packages).index))
                for _ in range(source.randint(1, 3))]
    bounds = {}
    for name in source.sample("uvwxyz", source.randint(0, 6)):
        first, second = source.sample(list(packages), 2)
        bounds[name] = Bound(first, some_versions(source, packages[first]), second,
                             some_versions(source, packages[second]), cost=source.randint(1, 9))
    return Shelf(packages, needs, breaks, requests, bounds), breaks


def all_plans(shelf):
    """All plans of a shelf, of any kind, ordered as tuples."""
    return list(itertools.product(*[range(many + 1) for many in shelf.packages.values()]))


def all_sets(shelf):
    """All sets of bounds of a shelf."""
    return [names for many in range(len(shelf) + 1) for names in itertools.combinations(shelf.names, many)]
