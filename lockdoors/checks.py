"""What counts as a name, for all files that take names."""

LETTERS = "abcdefghijklmnopqrstuvwxyz"
LONGEST = 8


def is_name(value):
    """Whether the value is a string of 1 to 8 letters from a to z."""
    # The letters are written out because islower and isalpha also accept letters outside a to z.
    return isinstance(value, str) and 1 <= len(value) <= LONGEST and all([letter in LETTERS for letter in value])


def are_names(values):
    """Whether the value is a tuple of different names."""
    # The names are checked before the set is made, since other values may not fit into a set.
    return isinstance(values, tuple) and all([is_name(value) for value in values]) and len(set(values)) == len(values)


def all_in(names, known):
    """Whether all names are among the known ones."""
    return all([name in known for name in names])
