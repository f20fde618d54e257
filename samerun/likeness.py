"""Whether two values are equal, where booleans are not integers."""


def alike(one, other):
    """Return whether two values are equal, and no boolean of one stands where the other has an integer."""
    if isinstance(one, bool) != isinstance(other, bool):
        return False
    if isinstance(one, dict) and isinstance(other, dict):
        return alike_dicts(one, other)
    if isinstance(one, list) and isinstance(other, list):
        return alike_rows(one, other)
    if isinstance(one, tuple) and isinstance(other, tuple):
        return alike_rows(one, other)
    return one == other


def alike_rows(one, other):
    """Return whether two lists, or two tuples, have like items in the same order."""
    return len(one) == len(other) and all([alike(first, second) for first, second in zip(one, other)])


def alike_dicts(one, other):
    """Return whether two dicts, in any order, have like keys with like values."""
    # A dict finds 1 where True is asked for, so the keys themselves are compared as well.
    keys = {key: key for key in other}
    if len(one) != len(other) or not all([key in keys for key in one]):
        return False
    return all([alike(key, keys[key]) and alike(one[key], other[key]) for key in one])
