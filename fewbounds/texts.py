"""Shelves as texts, a line for each package, item with needs, breaking pair, request and bound."""

from fewbounds.checks import check_shelf
from fewbounds.errors import BadBound, BadShelf, BadText
from fewbounds.kinds import is_between, is_name
from fewbounds.shelves import Bound, Shelf, items_of

DIGITS = {"1": 1, "2": 2, "3": 3, "4": 4, "5": 5, "6": 6, "7": 7, "8": 8, "9": 9}


def number_of(word):
    """Return the number from 1 to 9 that a word is, or 0."""
    return DIGITS.get(word, 0)


def numbers_of(words):
    """Return the tuple of the numbers that words are, 0 for what is none."""
    return tuple([number_of(word) for word in words])


def read_item(words):
    """Return the name and the number from 1 to 3 that two words are, or None."""
    if len(words) != 2 or not is_name(words[0]) or not is_between(number_of(words[1]), 1, 3):
        return None
    return words[0], number_of(words[1])


def read_names(words):
    """Return the tuple of the names that words are, at least one, or None."""
    if len(words) == 0 or not all([is_name(word) for word in words]):
        return None
    return tuple(words)


def read_needs(words):
    """Return the item and the tuple of names that words are, or None."""
    item, names = read_item(words[:2]), read_names(words[2:])
    if item is None or names is None:
        return None
    return item, names


def read_break(words):
    """Return the pair of items that four words are, or None."""
    one, two = read_item(words[:2]), read_item(words[2:])
    if one is None or two is None:
        return None
    return one, two


def read_bound(words):
    """Return the name and the bound that words are, or None."""
    places = [at for at, word in enumerate(words) if is_name(word)]
    if len(places) != 3 or places[:2] != [0, 2]:
        return None
    middle = places[2]
    try:
        bound = Bound(words[2], numbers_of(words[3:middle]), words[middle], numbers_of(words[middle + 1:]),
                      cost=number_of(words[1]))
    except BadBound:
        return None
    return words[0], bound


# The kinds of lines, in their order; a package has the form of an item.
READERS = {"package": read_item, "needs": read_needs, "breaks": read_break, "request": read_names,
           "bound": read_bound}


def read_lines(lines):
    """Return a dict from the kinds to the lists of what their lines are."""
    kinds = list(READERS)
    found = {kind: [] for kind in kinds}
    for row, line in enumerate(lines):
        word, *words = line.split(" ")
        if word not in kinds:
            raise BadText(row)
        # What stands before this kind may not come any more.
        kinds = kinds[kinds.index(word):]
        reader = READERS[word]
        entry = reader(words)
        if entry is None:
            raise BadText(row)
        found[word].append(entry)
    return found


def table_of(pairs):
    """Return the dict that pairs with different first parts form."""
    table = dict(pairs)
    if len(table) < len(pairs):
        raise BadText(0)
    return table


def read_shelf(text):
    """Return the shelf that a text describes."""
    if not isinstance(text, str):
        raise BadText(0)
    *lines, rest = text.split("\n")
    found = read_lines(lines)
    if len(rest) > 0:
        raise BadText(len(lines))
    packages, needs, bounds = table_of(found["package"]), table_of(found["needs"]), table_of(found["bound"])
    try:
        return Shelf(packages, needs, found["breaks"], found["request"], bounds)
    except BadShelf:
        raise BadText(0) from None


def bound_words(name, bound):
    """Return the tuple of the words in the line of a bound."""
    return ("bound", name, bound.cost, bound.first) + bound.versions + (bound.second,) + bound.others


def shelf_text(shelf):
    """Return the text that describes a shelf."""
    check_shelf(shelf)
    items = items_of(shelf.packages)
    rows = [("package", name, many) for name, many in shelf.packages.items()]
    rows += [("needs",) + item + shelf.needs(item) for item in items if len(shelf.needs(item)) > 0]
    rows += [("breaks",) + one + two for one, two in shelf.breaks]
    rows += [("request",) + request for request in shelf.requests]
    rows += [bound_words(name, shelf[name]) for name in shelf.names]
    return "".join([" ".join([str(word) for word in row]) + "\n" for row in rows])
