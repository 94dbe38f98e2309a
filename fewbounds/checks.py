"""The checks of the arguments that several files share: a shelf, and what belongs to one."""

from fewbounds.errors import BadDoubt, BadPlan, BadRequest, BadSet, BadShelf, BadTree
from fewbounds.kinds import is_between, is_one_of, is_selection, is_tree_form
from fewbounds.shelves import Shelf


def is_request(shelf, request):
    """Say whether a value is the index of a request of a shelf."""
    return is_between(request, 0, len(shelf.requests) - 1)


def is_plan(shelf, plan):
    """Say whether a value is a plan of a shelf."""
    counts = list(shelf.packages.values())
    if not isinstance(plan, tuple) or len(plan) != len(counts):
        return False
    return all([is_between(version, 0, many) for version, many in zip(plan, counts)])


def is_doubt_form(shelf, doubt):
    """Say whether a value has the form of a doubt about a request of a shelf."""
    if not isinstance(doubt, tuple) or len(doubt) != 3:
        return False
    word, request, evidence = doubt
    if not is_one_of(word, ("broken", "shut")) or not is_request(shelf, request):
        return False
    if word == "broken":
        return is_plan(shelf, evidence)
    return is_tree_form(evidence)


def check_shelf(shelf):
    """Raise BadShelf if a value is not a Shelf."""
    if not isinstance(shelf, Shelf):
        raise BadShelf(None)


def check_request(shelf, request):
    """Raise BadRequest if a value is not the index of a request of a shelf."""
    if not is_request(shelf, request):
        raise BadRequest("not the index of a request")


def check_set(shelf, bounds):
    """Raise BadSet if a value is not a set of bounds of a shelf."""
    if not is_selection(bounds, shelf.names):
        raise BadSet("not a tuple of different names of bounds, in the order of the shelf")


def check_plan(shelf, plan):
    """Raise BadPlan if a value is not a plan of a shelf."""
    if not is_plan(shelf, plan):
        raise BadPlan("not a plan of the shelf")


def check_tree(tree):
    """Raise BadTree if a value does not have the form of a tree."""
    if not is_tree_form(tree):
        raise BadTree("not a tuple in the form of a tree that is at most 6 deep")


def check_doubt(shelf, doubt):
    """Raise BadDoubt if a value does not have the form of a doubt."""
    if not is_doubt_form(shelf, doubt):
        raise BadDoubt("neither a broken plan nor a shut tree for a request")
