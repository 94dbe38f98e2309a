"""Trees of choices, doubts against sets of bounds, and the cheapest right set with both as evidence.

The functions of the interface check their arguments; the other ones expect them to be checked.
"""

from fewbounds.checks import check_doubt, check_request, check_set, check_shelf, check_tree
from fewbounds.checks import is_doubt_form, is_plan
from fewbounds.kinds import is_selection, is_tree_form
from fewbounds.plans import allowed_plans, empty_plan, has_break, is_allowed, is_plan_of
from fewbounds.plans import next_index, next_plans, request_plans, set_cost, violates


def fits(shelf, request, bounds, plan, tree):
    """Say whether a tuple is a tree for a plan and a request, with a set of bounds."""
    word = tree[0]
    if word == "bound":
        return tree[1] in bounds and violates(shelf, tree[1], plan)
    at = next_index(shelf, request, plan)
    if word == "done":
        return at is None and not has_break(shelf, plan)
    if at is None:
        return False
    longer = next_plans(shelf, plan, at)
    if len(longer) != len(tree[1]):
        return False
    return all([fits(shelf, request, bounds, one, part) for one, part in zip(longer, tree[1])])


def has_done(tree):
    """Say whether a tree is done, or a tree in it is."""
    if tree[0] == "choose":
        return any([has_done(part) for part in tree[1]])
    return tree[0] == "done"


def find_tree(shelf, request, bounds, plan):
    """Return a tree for a plan and a request, with a set that allows no broken plan that results from it."""
    for name in bounds:
        if violates(shelf, name, plan):
            return ("bound", name)
    at = next_index(shelf, request, plan)
    if at is None:
        return ("done",)
    return ("choose", tuple([find_tree(shelf, request, bounds, longer) for longer in next_plans(shelf, plan, at)]))


def holds(shelf, bounds, doubt):
    """Say whether a tuple in the form of a doubt is one against a set."""
    word, request, evidence = doubt
    if word == "broken":
        return (is_plan_of(shelf, request, evidence) and has_break(shelf, evidence)
                and is_allowed(shelf, bounds, evidence))
    return fits(shelf, request, bounds, empty_plan(shelf), evidence) and not has_done(evidence)


def find_doubt(shelf, every, bounds):
    """Return a doubt against a set, or None if it is right; every has the list of all plans of each request."""
    for request, rows in enumerate(every):
        allowed = [plan for plan in rows if is_allowed(shelf, bounds, plan)]
        broken = [plan for plan in allowed if has_break(shelf, plan)]
        if len(broken) > 0:
            return ("broken", request, broken[0])
        if len(allowed) == 0:
            return ("shut", request, find_tree(shelf, request, bounds, empty_plan(shelf)))
    return None


def all_sets(shelf):
    """Return the list of all sets of bounds, ordered by the number of their bounds, then as lists of indices."""
    found = [()]
    for at in range(len(shelf)):
        found = found + [indices + (at,) for indices in found]
    names = shelf.names
    ordered = sorted(found, key=lambda row: (len(row), row))
    return [tuple([names[index] for index in chosen]) for chosen in ordered]


def cheaper_sets(shelf, bounds):
    """Return the list of the sets that cost less than this one, in their order."""
    cost = set_cost(shelf, bounds)
    return [names for names in all_sets(shelf) if set_cost(shelf, names) < cost]


def are_allowed(shelf, bounds, rows):
    """Say whether a list has, for each request, one of its plans that a set allows."""
    return len(rows) == len(shelf.requests) and all(
        [is_plan(shelf, plan) and is_plan_of(shelf, request, plan) and is_allowed(shelf, bounds, plan)
         for request, plan in enumerate(rows)])


def are_trees(shelf, bounds, rows):
    """Say whether a list has a tree for each request, with a set of bounds."""
    return len(rows) == len(shelf.requests) and all(
        [is_tree_form(tree) and fits(shelf, request, bounds, empty_plan(shelf), tree)
         for request, tree in enumerate(rows)])


def are_doubts(shelf, sets, doubts):
    """Say whether a dict leads from exactly these sets, in any order, to doubts against them."""
    return len(doubts) == len(sets) and all(
        [names in doubts and is_doubt_form(shelf, doubts[names]) and holds(shelf, names, doubts[names])
         for names in sets])


def is_tree(shelf, request, bounds, tree):
    """Return whether a tuple is a tree for a request, with a set of bounds."""
    check_shelf(shelf)
    check_request(shelf, request)
    check_set(shelf, bounds)
    check_tree(tree)
    return fits(shelf, request, bounds, empty_plan(shelf), tree)


def is_shut(tree):
    """Return whether a tree is shut: nothing in it is done."""
    check_tree(tree)
    return not has_done(tree)


def is_doubt(shelf, bounds, doubt):
    """Return whether a tuple is a doubt against a set of bounds."""
    check_shelf(shelf)
    check_set(shelf, bounds)
    check_doubt(shelf, doubt)
    return holds(shelf, bounds, doubt)


class Bounding:
    """A cheapest right set, with plans that it allows, trees, and doubts against the sets that cost less."""

    def __init__(self, bounds, plans, trees, doubts):
        self.bounds = bounds
        self.plans = list(plans)
        self.trees = list(trees)
        self.doubts = {names: doubts[names] for names in doubts}

    def __eq__(self, other):
        return (isinstance(other, Bounding) and self.bounds == other.bounds and self.plans == other.plans
                and self.trees == other.trees and self.doubts == other.doubts)

    def shows(self, shelf):
        """Return whether the current attributes show that the set is a cheapest right one of a shelf."""
        check_shelf(shelf)
        if not is_selection(self.bounds, shelf.names):
            return False
        return (are_allowed(shelf, self.bounds, self.plans) and are_trees(shelf, self.bounds, self.trees)
                and are_doubts(shelf, cheaper_sets(shelf, self.bounds), self.doubts))


class NoBounding:
    """Doubts against all sets of bounds: none is right."""

    def __init__(self, doubts):
        self.doubts = {names: doubts[names] for names in doubts}

    def __eq__(self, other):
        return isinstance(other, NoBounding) and self.doubts == other.doubts

    def shows(self, shelf):
        """Return whether the current attribute shows that a shelf has no right set."""
        check_shelf(shelf)
        return are_doubts(shelf, all_sets(shelf), self.doubts)


def cheapest(shelf):
    """Return a Bounding with the first one of the cheapest right sets, or a NoBounding if no set is right."""
    check_shelf(shelf)
    requests = range(len(shelf.requests))
    every = [request_plans(shelf, request) for request in requests]
    found = {names: find_doubt(shelf, every, names) for names in all_sets(shelf)}
    right = [names for names in found if found[names] is None]
    if len(right) == 0:
        return NoBounding(found)
    # Of equal costs, min takes the first one.
    best = min(right, key=lambda row: set_cost(shelf, row))
    return Bounding(best, [allowed_plans(shelf, request, best)[0] for request in requests],
                    [find_tree(shelf, request, best, empty_plan(shelf)) for request in requests],
                    {names: found[names] for names in cheaper_sets(shelf, best)})
