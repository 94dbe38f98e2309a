"""Bounds, and shelves of packages, what they need, what breaks, requests and bounds."""

from fewbounds.errors import BadBound, BadName, BadShelf
from fewbounds.kinds import are_breaks, are_needs, are_packages, are_requests, are_versions
from fewbounds.kinds import is_between, is_item, is_name, is_one_of


class Bound:
    """Says that some versions of a package are not installed with some versions of another one."""

    def __init__(self, first, versions, second, others, *, cost=1):
        if not is_name(first) or not is_name(second) or first == second:
            raise BadBound("a bound has two different names")
        if not are_versions(versions) or not are_versions(others):
            raise BadBound("a bound has 1 to 3 ascending versions of each package, from 1 to 3")
        if not is_between(cost, 1, 9):
            raise BadBound("a cost is an integer from 1 to 9")
        self._first = first
        self._versions = versions
        self._second = second
        self._others = others
        self._cost = cost

    @property
    def first(self):
        """The name of the first package."""
        return self._first

    @property
    def versions(self):
        """The tuple of the versions of the first package."""
        return self._versions

    @property
    def second(self):
        """The name of the second package."""
        return self._second

    @property
    def others(self):
        """The tuple of the versions of the second package."""
        return self._others

    @property
    def cost(self):
        """The cost of declaring the bound."""
        return self._cost

    def __neg__(self):
        return Bound(self._second, self._others, self._first, self._versions, cost=self._cost)

    def __eq__(self, other):
        return (isinstance(other, Bound) and self._first == other._first and self._versions == other._versions
                and self._second == other._second and self._others == other._others and self._cost == other._cost)


def is_side(package, versions, packages):
    """Say whether the packages have this one, in all of these ascending versions."""
    return package in packages and versions[-1] <= packages[package]


def is_bound(value, packages):
    """Say whether a value is a bound of packages and versions of a shelf."""
    return (isinstance(value, Bound) and is_side(value.first, value.versions, packages)
            and is_side(value.second, value.others, packages))


def are_bounds(value, packages):
    """Say whether a value is a dict from at most 6 names to bounds."""
    if not isinstance(value, dict) or len(value) > 6:
        return False
    return all([is_name(name) and is_bound(bound, packages) for name, bound in value.items()])


def items_of(packages):
    """Return the items of packages, ordered by package, then by version."""
    return [(package, version) for package, many in packages.items() for version in range(1, many + 1)]


def ordered_breaks(breaks, packages):
    """Return the breaking pairs, each once and with its earlier item first, ordered by first and second items."""
    rows = items_of(packages)
    return [(one, two) for at, one in enumerate(rows) for two in rows[at + 1:]
            if (one, two) in breaks or (two, one) in breaks]


class Shelf:
    """Packages with their needs and breaks, the requests, and the bounds that could be declared."""

    def __init__(self, packages, needs, breaks, requests, bounds):
        if not are_packages(packages):
            raise BadShelf("PACKAGES")
        if not are_needs(needs, packages):
            raise BadShelf("NEEDS")
        if not are_breaks(breaks, packages):
            raise BadShelf("BREAKS")
        if not are_requests(requests, packages):
            raise BadShelf("REQUESTS")
        if not are_bounds(bounds, packages):
            raise BadShelf("BOUNDS")
        self._packages = dict(packages)
        self._needs = {item: needs.get(item, ()) for item in items_of(packages)}
        self._breaks = ordered_breaks(breaks, packages)
        self._requests = list(requests)
        self._bounds = dict(bounds)

    @property
    def packages(self):
        """A dict from the packages to their numbers of versions, in order."""
        return dict(self._packages)

    @property
    def breaks(self):
        """The list of the breaking pairs, each once and with its earlier item first, in order."""
        return list(self._breaks)

    @property
    def requests(self):
        """The list of the requests, in order."""
        return list(self._requests)

    @property
    def names(self):
        """The list of the names of the bounds, in order."""
        return list(self._bounds)

    def needs(self, item):
        """Return the tuple of the packages that an item needs."""
        if not is_item(item, self._packages):
            raise BadName("not an item of the shelf")
        return self._needs[item]

    def __getitem__(self, at):
        if not is_one_of(at, self._bounds):
            raise BadName("not the name of a bound")
        return self._bounds[at]

    # Without this, a loop over a shelf would ask __getitem__ for the index 0.
    def __iter__(self):
        raise TypeError("a shelf is not iterated over")

    def __contains__(self, x):
        return is_one_of(x, self._bounds)

    def __len__(self):
        return len(self._bounds)

    def __eq__(self, other):
        # The names beside the dicts compare the orders, which == of dicts ignores.
        return (isinstance(other, Shelf) and list(self._packages) == list(other._packages)
                and self._packages == other._packages and self._needs == other._needs
                and self._breaks == other._breaks and self._requests == other._requests
                and list(self._bounds) == list(other._bounds) and self._bounds == other._bounds)
