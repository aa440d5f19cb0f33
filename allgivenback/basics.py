"""The refusals, the numbers of the holders and the plainest judges."""

MOST_WORD = 65535
NOBODY = 0
MAP = 21
SLAB = 22
EXTENT = 23
HEAP = 24
REGION = 25
HANDLE = 26
MAPPED = 27
NODE = 28
MAGIC = 4711
RED = 60001
POISON = 60002


class StoreError(ValueError):
    """What all refusals have in common; it is never raised itself."""


class BadValue(StoreError):
    """An argument is not as told."""

    def __init__(self, parameter):
        self.parameter = parameter
        self.told = ("BadValue", (parameter,))


class Broken(StoreError):
    """A word is not as its keeper left it."""

    def __init__(self, place, found, due):
        self.place = place
        self.found = found
        self.due = due
        self.told = ("Broken", (place, found, due))


class Unknown(StoreError):
    """An argument names nothing that is there."""

    def __init__(self, parameter):
        self.parameter = parameter
        self.told = ("Unknown", (parameter,))


class NotHeld(StoreError):
    """A place is not held by the holder who must hold it."""

    def __init__(self, place, found):
        self.place = place
        self.found = found
        self.told = ("NotHeld", (place, found))


class Fault(StoreError):
    """A virtual place cannot be used."""

    def __init__(self, kind, place):
        self.kind = kind
        self.place = place
        self.told = ("Fault", (kind, place))


class NoRoom(StoreError):
    """There is no room, and the paper shows why."""

    def __init__(self, paper):
        self.paper = paper
        self.told = ("NoRoom", (paper,))


class Cut(StoreError):
    """The budget of the ground is too small."""

    def __init__(self, needed, left):
        self.needed = needed
        self.left = left
        self.told = ("Cut", (needed, left))


class BadLine(StoreError):
    """A text of requests is not well formed."""

    def __init__(self, line, column):
        self.line = line
        self.column = column
        self.told = ("BadLine", (line, column))


def is_whole(value):
    """True if the value is an integer other than True and False."""
    return isinstance(value, int) and not isinstance(value, bool)


def is_user(value):
    """True if the value is the number of a user."""
    return is_whole(value) and 1 <= value <= 8


def is_holder(value):
    """True if the value is the number of nobody, a user, a drawer or a keeper."""
    if not is_whole(value):
        return False
    return 0 <= value <= 8 or 11 <= value <= 18 or MAP <= value <= NODE


def drawer_of(user):
    """The holder number of the user's drawer."""
    if not is_user(user):
        raise BadValue("user")
    return 10 + user
