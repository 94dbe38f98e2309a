"""The errors that the package raises."""


class BoundError(ValueError):
    """Any error of this package; each other one is a direct subclass of it."""


class BadBound(BoundError):
    """A bound cannot be made of these arguments."""


class BadShelf(BoundError):
    """A value is not a shelf, or a shelf cannot be made of these arguments.

    part names the argument that is wrong; it is None if a value is not a Shelf.
    """

    def __init__(self, part=None):
        super().__init__(f"not a shelf: {part}")
        self.part = part


class BadName(BoundError):
    """A value does not name what it should name: a package, an item or a bound."""


class BadSet(BoundError):
    """A value is not a set of bounds of the shelf."""


class BadRequest(BoundError):
    """A value is not the index of a request of the shelf."""


class BadPlan(BoundError):
    """A value is not a plan of the shelf."""


class BadTree(BoundError):
    """A value does not have the form of a tree."""


class BadDoubt(BoundError):
    """A value does not have the form of a doubt."""


class NotAllowed(BoundError):
    """An installation would violate a bound, or break the plan."""


class NotInstalled(BoundError):
    """A package that should be removed has no version."""


class NothingDone(BoundError):
    """There is no step to undo."""


class BadText(BoundError):
    """A text is not the text of a shelf; row is the index of the line that is at fault."""

    def __init__(self, row=0):
        super().__init__(f"not the text of a shelf: row {row}")
        self.row = row
