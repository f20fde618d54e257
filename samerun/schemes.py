"""Schemes: a program for the machine, and the kinds of what can happen to it."""

from samerun.errors import BadScheme

ALL_KINDS = ("rings", "alarms", "ticks", "words", "results", "firsts")
QUIET = (False, False, False, None, 0, 0)

# The greatest number of each instruction word. That of jump depends on the code around it.
GREATEST = {
    "set": 2, "load": 2, "add": 2, "save": 2, "first": 2,
    "show": 0, "shut": 0, "open": 0, "time": 0, "take": 0, "count": 0, "spilt": 0, "call": 0,
}


class Scheme:
    """A program, and the set of kinds that can happen to it. It never changes."""

    def __init__(self, threads, *, handler=(), kinds=ALL_KINDS):
        if not are_threads(threads):
            raise BadScheme("THREADS")
        if not is_code(handler, 0, 3):
            raise BadScheme("HANDLER")
        if not is_kinds_of(ALL_KINDS, kinds):
            raise BadScheme("KINDS")
        self._threads = threads
        self._handler = handler
        self._kinds = kinds

    @property
    def threads(self):
        """The threads, a tuple of one to three tuples of instructions."""
        return self._threads

    @property
    def handler(self):
        """The handler, a tuple of instructions."""
        return self._handler

    @property
    def kinds(self):
        """The set of kinds that can happen."""
        return self._kinds

    def __eq__(self, other):
        if not isinstance(other, Scheme):
            return False
        mine = (self._threads, self._handler, self._kinds)
        return mine == (other._threads, other._handler, other._kinds)


def is_number(value, least, greatest):
    """Return whether a value is an integer within these bounds."""
    return isinstance(value, int) and not isinstance(value, bool) and least <= value <= greatest


def are_threads(value):
    """Return whether a value is a tuple of one to three threads."""
    if not isinstance(value, tuple) or not 1 <= len(value) <= 3:
        return False
    return all([is_code(thread, 1, 5) for thread in value])


def is_code(value, least, most):
    """Return whether a value is a tuple of instructions, not fewer than least and not more than most."""
    if not isinstance(value, tuple) or not least <= len(value) <= most:
        return False
    return all([is_instruction(item, len(value)) for item in value])


def is_instruction(value, places):
    """Return whether a value is an instruction of a code with so many places."""
    if not isinstance(value, tuple) or len(value) != 2:
        return False
    word, number = value
    if not isinstance(word, str):
        return False
    if word == "jump":
        return is_number(number, 0, places - 1)
    return word in GREATEST and is_number(number, 0, GREATEST[word])


def is_kinds_of(among, value):
    """Return whether a value is a tuple of different ones of these kinds, in their order."""
    # What is no string is turned away first: only then is a comparison sure to be harmless.
    if not isinstance(value, tuple) or not all([isinstance(kind, str) for kind in value]):
        return False
    return value == tuple([kind for kind in among if kind in value])


def check_scheme(scheme):
    """Raise BadScheme if an argument is no scheme."""
    if not isinstance(scheme, Scheme):
        raise BadScheme(None)


def is_world(scheme, value):
    """Return whether a value, of any kind, is a world of a scheme."""
    check_scheme(scheme)
    if not has_parts(value):
        return False
    can_happen = scheme.kinds
    parts = list(zip(ALL_KINDS, value, QUIET))
    return all([part == quiet for kind, part, quiet in parts if kind not in can_happen])


def has_parts(value):
    """Return whether a value is a tuple of six parts as a world has them, whatever can happen."""
    if not isinstance(value, tuple) or len(value) != len(QUIET):
        return False
    rings, alarms, ticks, word, result, first = value
    if not all([isinstance(part, bool) for part in (rings, alarms, ticks)]):
        return False
    if word is not None and not is_number(word, 1, 2):
        return False
    return is_number(result, 0, 2) and is_number(first, 0, 2)
