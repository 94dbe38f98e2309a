"""The good plans nearest to a plan, what they must change, and the needless bounds of a set.

The functions of the interface check their arguments; the other ones expect them to be checked.
"""

from fewbounds.checks import check_plan, check_request, check_set, check_shelf
from fewbounds.plans import allowed_plans, is_good, request_plans


def check_step(shelf, request, plan, bounds):
    """Raise the first error that the arguments of an upgrade give reason for."""
    check_shelf(shelf)
    check_request(shelf, request)
    check_plan(shelf, plan)
    check_set(shelf, bounds)


def good_plans(shelf, request, bounds):
    """Return the list of the good plans of a request, ordered as tuples."""
    return [plan for plan in request_plans(shelf, request) if is_good(shelf, bounds, plan)]


def distance(one, two):
    """Return the number of packages for which two plans differ."""
    return len([at for at, version in enumerate(one) if version != two[at]])


def is_needless(shelf, bounds, name):
    """Say whether a set without this bound allows the same plans of each request."""
    others = tuple([other for other in bounds if other != name])
    return all([allowed_plans(shelf, request, others) == allowed_plans(shelf, request, bounds)
                for request in range(len(shelf.requests))])


def upgrade(shelf, request, plan, bounds=()):
    """Return the first one of the nearest good plans, or None if there is no good plan."""
    check_step(shelf, request, plan, bounds)
    # Of equal distances, min takes the first one.
    return min(good_plans(shelf, request, bounds), key=lambda good: distance(plan, good), default=None)


def must_change(shelf, request, plan, bounds=()):
    """Return the list of the packages that differ in all good plans from a plan, in order."""
    check_step(shelf, request, plan, bounds)
    found = good_plans(shelf, request, bounds)
    return [package for at, package in enumerate(shelf.packages) if all([good[at] != plan[at] for good in found])]


def needless(shelf, bounds):
    """Return the list of the names of the needless bounds of a set, in order."""
    check_shelf(shelf)
    check_set(shelf, bounds)
    return [name for name in bounds if is_needless(shelf, bounds, name)]
