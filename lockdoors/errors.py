"""The errors of the package, one class for each kind of failure."""


class LockError(ValueError):
    """The base of all errors of the package."""


class BadLocks(LockError):
    """Not a set of doors, or not one of this building."""


class BadDoor(LockError):
    """Not the values of a door."""


class BadPerson(LockError):
    """Not the values of a person."""


class BadBuilding(LockError):
    """Not the parts of a building (part names the first wrong one), or no Building at all (part is None)."""

    def __init__(self, part=None):
        self.part = part


class BadName(LockError):
    """Not the name of something that is there."""


class BadTrail(LockError):
    """Not a tuple of names of doors of the building."""


class BadDoubt(LockError):
    """Not a tuple in one of the two forms of a doubt."""


class BadRoom(LockError):
    """Not a room out of which the person can be kept."""


class NoWay(LockError):
    """A door that cannot be passed now."""


class NothingPassed(LockError):
    """No step that could be taken back."""


class BadText(LockError):
    """Not the text of a building; row is the index of the line at fault."""

    def __init__(self, row=0):
        self.row = row
