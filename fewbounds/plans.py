"""The plans of requests, and the sets of bounds that allow them.

The functions of the interface check their arguments; the other ones expect them to be checked.
"""

from fewbounds.checks import check_plan, check_request, check_set, check_shelf


def empty_plan(shelf):
    """Return the plan without versions."""
    return (0,) * len(shelf.packages)


def with_version(plan, at, version):
    """Return the plan that gives a package, by its index, this version, or 0 for none."""
    return plan[:at] + (version,) + plan[at + 1:]


def plan_items(shelf, plan):
    """Return the list of the items of a plan, in order."""
    return [(package, version) for package, version in zip(shelf.packages, plan) if version > 0]


def next_index(shelf, request, plan):
    """Return the index of the next package of a plan, or None if the plan is not open."""
    wanted = list(shelf.requests[request])
    for item in plan_items(shelf, plan):
        wanted.extend(shelf.needs(item))
    for at, package in enumerate(shelf.packages):
        if plan[at] == 0 and package in wanted:
            return at
    return None


def next_plans(shelf, plan, at):
    """Return the list of the plans that give a package, by its index, each of its versions, in order."""
    many = list(shelf.packages.values())[at]
    return [with_version(plan, at, version) for version in range(1, many + 1)]


def finished_plans(shelf, request, plan):
    """Return the list of the plans without a next package that result from a plan."""
    at = next_index(shelf, request, plan)
    if at is None:
        return [plan]
    found = []
    for longer in next_plans(shelf, plan, at):
        found.extend(finished_plans(shelf, request, longer))
    return found


def request_plans(shelf, request):
    """Return the list of all plans of a request, ordered as tuples."""
    # The next package may stand before one that has a version: so the plans are not found in this order.
    return sorted(finished_plans(shelf, request, empty_plan(shelf)))


def is_plan_of(shelf, request, plan):
    """Say whether a plan is one of a request: giving each next package its version of the plan leads to it."""
    reached = empty_plan(shelf)
    at = next_index(shelf, request, reached)
    while at is not None and plan[at] > 0:
        reached = with_version(reached, at, plan[at])
        at = next_index(shelf, request, reached)
    return at is None and reached == plan


def has_break(shelf, plan):
    """Say whether two items of a plan break."""
    present = plan_items(shelf, plan)
    return any([one in present and two in present for one, two in shelf.breaks])


def violates(shelf, name, plan):
    """Say whether a plan violates the bound with this name."""
    bound = shelf[name]
    chosen = dict(zip(shelf.packages, plan))
    return chosen[bound.first] in bound.versions and chosen[bound.second] in bound.others


def is_allowed(shelf, bounds, plan):
    """Say whether a plan violates none of the bounds of a set."""
    return not any([violates(shelf, name, plan) for name in bounds])


def is_good(shelf, bounds, plan):
    """Say whether a set allows a plan, and the plan is not broken."""
    return is_allowed(shelf, bounds, plan) and not has_break(shelf, plan)


def allowed_plans(shelf, request, bounds):
    """Return the list of the plans of a request that a set allows, ordered as tuples."""
    return [plan for plan in request_plans(shelf, request) if is_allowed(shelf, bounds, plan)]


def is_right_for(shelf, request, bounds):
    """Say whether a set allows at least one plan of a request, and no broken one."""
    allowed = allowed_plans(shelf, request, bounds)
    return len(allowed) > 0 and not any([has_break(shelf, plan) for plan in allowed])


def plans(shelf, request, bounds=()):
    """Yield the plans of a request that a set allows, ordered as tuples."""
    check_shelf(shelf)
    check_request(shelf, request)
    check_set(shelf, bounds)
    for plan in allowed_plans(shelf, request, bounds):
        yield plan


def next_package(shelf, request, plan):
    """Return the next package of a plan, or None if it is not open."""
    check_shelf(shelf)
    check_request(shelf, request)
    check_plan(shelf, plan)
    at = next_index(shelf, request, plan)
    if at is None:
        return None
    return list(shelf.packages)[at]


def is_broken(shelf, plan):
    """Return whether two items of a plan break."""
    check_shelf(shelf)
    check_plan(shelf, plan)
    return has_break(shelf, plan)


def allows(shelf, bounds, plan):
    """Return whether a set of bounds allows a plan."""
    check_shelf(shelf)
    check_set(shelf, bounds)
    check_plan(shelf, plan)
    return is_allowed(shelf, bounds, plan)


def is_right(shelf, bounds):
    """Return whether a set of bounds allows, for each request, a plan and no broken one."""
    check_shelf(shelf)
    check_set(shelf, bounds)
    return all([is_right_for(shelf, request, bounds) for request in range(len(shelf.requests))])


def set_cost(shelf, bounds):
    """Return what declaring all bounds of a set costs."""
    check_shelf(shelf)
    check_set(shelf, bounds)
    return sum([shelf[name].cost for name in bounds])
