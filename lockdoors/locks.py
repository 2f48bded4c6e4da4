"""Sets of doors."""

from lockdoors.checks import all_in, is_name
from lockdoors.errors import BadLocks


def check_other(other):
    """Raise BadLocks unless the other operand is a Locks."""
    if not isinstance(other, Locks):
        raise BadLocks("the other one is not a Locks")


class Locks:
    """A set of doors, given by their names, that never changes."""

    def __init__(self, *names):
        if not all([is_name(name) for name in names]):
            raise BadLocks("not names of doors")
        # Sorted, without repetitions, so that equal sets are kept as equal tuples.
        self.kept_names = tuple(sorted(set(names)))

    def __eq__(self, other):
        return isinstance(other, Locks) and self.kept_names == other.kept_names

    def __or__(self, other):
        check_other(other)
        names = self.kept_names + other.kept_names
        return Locks(*names)

    def __and__(self, other):
        check_other(other)
        names = [name for name in self.kept_names if name in other.kept_names]
        return Locks(*names)

    def __sub__(self, other):
        check_other(other)
        names = [name for name in self.kept_names if name not in other.kept_names]
        return Locks(*names)

    def __contains__(self, name):
        return name in self.kept_names

    def __len__(self):
        return len(self.kept_names)

    @property
    def names(self):
        """The alphabetical list of the names."""
        return list(self.kept_names)

    def holds(self, other):
        """Whether all names of the other set are in this one."""
        check_other(other)
        return all_in(other.kept_names, self.kept_names)
