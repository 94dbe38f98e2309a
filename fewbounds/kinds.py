"""What the arguments of a bound and of a shelf, and trees, must look like.

Each function takes a value of any kind and says whether it is what the name says.
The checks of kinds come first, as a value that is not of its kind may not even be hashed or compared.
"""


def is_between(value, low, high):
    """Say whether a value is an integer from low to high; True and False are not."""
    return isinstance(value, int) and not isinstance(value, bool) and low <= value <= high


def is_name(value):
    """Say whether a value is a string of 1 to 8 lowercase letters, a to z."""
    return isinstance(value, str) and 1 <= len(value) <= 8 and all(["a" <= letter <= "z" for letter in value])


def is_one_of(value, names):
    """Say whether a value is one of some names."""
    return isinstance(value, str) and value in names


def is_selection(value, names):
    """Say whether a value is a tuple of different ones of some names, in their order."""
    if not isinstance(value, tuple) or not all([is_one_of(name, names) for name in value]):
        return False
    return list(value) == [name for name in names if name in value]


def are_versions(value):
    """Say whether a value is an ascending tuple of 1 to 3 integers from 1 to 3."""
    if not isinstance(value, tuple) or not 1 <= len(value) <= 3:
        return False
    return all([is_between(version, 1, 3) for version in value]) and list(value) == sorted(set(value))


def are_packages(value):
    """Say whether a value is a dict from 2 to 5 names to numbers of versions."""
    if not isinstance(value, dict) or not 2 <= len(value) <= 5:
        return False
    return all([is_name(name) and is_between(many, 1, 3) for name, many in value.items()])


def is_item(value, packages):
    """Say whether a value is a pair of a package and one of its versions."""
    if not isinstance(value, tuple) or len(value) != 2:
        return False
    package, version = value
    return is_one_of(package, packages) and is_between(version, 1, packages[package])


def are_needed(value, package, packages):
    """Say whether a value is a tuple of different packages other than this one."""
    if not isinstance(value, tuple) or not all([is_one_of(name, packages) for name in value]):
        return False
    return package not in value and len(set(value)) == len(value)


def are_needs(value, packages):
    """Say whether a value is a dict from items to tuples of the packages that they need."""
    if not isinstance(value, dict):
        return False
    return all([is_item(item, packages) and are_needed(names, item[0], packages) for item, names in value.items()])


def is_pair(value, packages):
    """Say whether a value is a pair of items of different packages."""
    if not isinstance(value, tuple) or len(value) != 2:
        return False
    return all([is_item(item, packages) for item in value]) and value[0][0] != value[1][0]


def are_breaks(value, packages):
    """Say whether a value is a list or tuple of pairs of items."""
    return isinstance(value, (list, tuple)) and all([is_pair(pair, packages) for pair in value])


def are_requests(value, packages):
    """Say whether a value is a list or tuple of 1 to 3 requests."""
    if not isinstance(value, (list, tuple)) or not 1 <= len(value) <= 3:
        return False
    return all([is_selection(request, packages) and len(request) > 0 for request in value])


def is_tree_form(value, deepest=6):
    """Say whether a value has the form of a tree that is at most this deep."""
    if deepest < 1 or not isinstance(value, tuple) or not 1 <= len(value) <= 2:
        return False
    if not isinstance(value[0], str):
        return False
    if len(value) == 1:
        return value[0] == "done"
    if value[0] == "bound":
        return isinstance(value[1], str)
    if value[0] != "choose" or not isinstance(value[1], tuple):
        return False
    return all([is_tree_form(part, deepest - 1) for part in value[1]])
