"""Sessions: a plan that is changed step by step, under a set of bounds."""

from fewbounds.checks import check_set, check_shelf
from fewbounds.errors import BadName, NotAllowed, NothingDone, NotInstalled
from fewbounds.kinds import is_item, is_one_of
from fewbounds.plans import empty_plan, is_good, plan_items, with_version
from fewbounds.shelves import items_of


def place_of(shelf, package):
    """Return the index of a package of a shelf."""
    names = list(shelf.packages)
    if not is_one_of(package, names):
        raise BadName("not a package of the shelf")
    return names.index(package)


def missing_packages(shelf, plan):
    """Return the list of the packages without a version that an item of a plan needs, in order."""
    needed = [name for item in plan_items(shelf, plan) for name in shelf.needs(item)]
    return [package for package, version in zip(shelf.packages, plan) if version == 0 and package in needed]


class Session:
    """A plan of a shelf, at first without versions, whose steps can be undone."""

    def __init__(self, shelf, bounds=()):
        check_shelf(shelf)
        check_set(shelf, bounds)
        self._shelf = shelf
        self._bounds = bounds
        self._plan = empty_plan(shelf)
        self._earlier = []

    @property
    def plan(self):
        """The plan, a tuple."""
        return self._plan

    @property
    def missing(self):
        """The list of the missing packages, in order."""
        return missing_packages(self._shelf, self._plan)

    def install(self, package, version):
        """Install a version of a package, in place of the one that it has, and return the plan."""
        if not is_item((package, version), self._shelf.packages):
            raise BadName("not an item of the shelf")
        changed = self._plan_with(package, version)
        if not is_good(self._shelf, self._bounds, changed):
            raise NotAllowed("the plan would violate a bound, or be broken")
        return self._step(changed)

    def remove(self, package):
        """Remove a package and return the plan."""
        if package not in self:
            raise NotInstalled("the package has no version")
        return self._step(self._plan_with(package, 0))

    def undo(self):
        """Take back the last step and return the plan."""
        if len(self._earlier) == 0:
            raise NothingDone("there is no step to undo")
        self._plan = self._earlier.pop()
        return self._plan

    def possible(self):
        """Yield the items that can be installed and are not in the plan, by package, then by version."""
        found = [(package, version) for package, version in items_of(self._shelf.packages)
                 if version != self[package]
                 and is_good(self._shelf, self._bounds, self._plan_with(package, version))]
        for item in found:
            yield item

    def _plan_with(self, package, version):
        return with_version(self._plan, place_of(self._shelf, package), version)

    def _step(self, changed):
        self._earlier.append(self._plan)
        self._plan = changed
        return changed

    def __getitem__(self, at):
        return self._plan[place_of(self._shelf, at)]

    # Without this, a loop over a session would ask __getitem__ for the index 0.
    def __iter__(self):
        raise TypeError("a session is not iterated over")

    def __contains__(self, x):
        return self[x] > 0

    def __len__(self):
        return len(plan_items(self._shelf, self._plan))

    def __bool__(self):
        return not self.missing
