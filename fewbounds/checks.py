"""The checks of the arguments that several files share: a shelf, and what belongs to one."""

from fewbounds.errors import BadPlan, BadRequest, BadSet, BadShelf
from fewbounds.kinds import is_between, is_selection
from fewbounds.shelves import Shelf


def is_plan(shelf, plan):
    """Say whether a value is a plan of a shelf."""
    counts = list(shelf.packages.values())
    if not isinstance(plan, tuple) or len(plan) != len(counts):
        return False
    return all([is_between(version, 0, many) for version, many in zip(plan, counts)])


def check_shelf(shelf):
    """Raise BadShelf if a value is not a Shelf."""
    if not isinstance(shelf, Shelf):
        raise BadShelf(None)


def check_request(shelf, request):
    """Raise BadRequest if a value is not the index of a request of a shelf."""
    if not is_between(request, 0, len(shelf.requests) - 1):
        raise BadRequest("not the index of a request")


def check_set(shelf, bounds):
    """Raise BadSet if a value is not a set of bounds of a shelf."""
    if not is_selection(bounds, shelf.names):
        raise BadSet("not a tuple of different names of bounds, in the order of the shelf")


def check_plan(shelf, plan):
    """Raise BadPlan if a value is not a plan of a shelf."""
    if not is_plan(shelf, plan):
        raise BadPlan("not a plan of the shelf")
