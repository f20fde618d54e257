"""Worlds, schemes and wrong arguments that several tests use."""

from samerun.machines import Machine
from samerun.schemes import ALL_KINDS, Scheme

GREATEST = {
    "set": 2, "load": 2, "add": 2, "save": 2, "first": 2, "jump": 0, "show": 0, "shut": 0,
    "open": 0, "time": 0, "take": 0, "count": 0, "spilt": 0, "call": 0,
}


class Sly:
    """Equals everything, and cannot be a key."""

    def __eq__(self, other):
        return True


# No value here is an integer from 0 to 2, a scheme, a tuple of two or more, or a list that is not empty.
ODD = [
    None, "", "set", "rings", b"set", [], {}, {0: 1}, set(), object(), Sly(), int, len, (), (1,), ((),), (None,),
    10 ** 5000, -(10 ** 5000), -1, 3, True, False,
]


def world(*, rings=False, alarms=False, ticks=False, word=None, result=0, first=0):
    """Return the world with these parts."""
    return (rings, alarms, ticks, word, result, first)


def code(text):
    """Return the instructions of a text such as `set 2; show`."""
    found = []
    for part in text.split("; "):
        word, _, number = part.partition(" ")
        found.append((word, int(number or "0")))
    return tuple(found)


def scheme_of(*threads, handler="", kinds=ALL_KINDS):
    """Return the scheme of these texts."""
    return Scheme(tuple(code(text) for text in threads), handler=code(handler) if handler else (), kinds=kinds)


def ran(scheme, worlds):
    """Return a machine that has done a step with each world, and the list of what it has shown."""
    machine = Machine(scheme)
    shown = [machine.step(each) for each in worlds]
    return machine, shown


def some_code(source, least, most):
    """Return instructions that a random source picks."""
    many = source.randint(least, most)
    found = []
    for _ in range(many):
        word = source.choice(list(GREATEST))
        top = many - 1 if word == "jump" else GREATEST[word]
        found.append((word, source.randint(0, top)))
    return tuple(found)


# Threads and handlers that show a number of one source each, so that numbers are often the same by chance.
TELLING = [
    "call; show", "time; show", "take; show", "count; show", "load 0; show", "set 1; show", "set 0; show", "show",
    "first 0; load 0; show",
]
WRITING = ["call; save 0", "time; save 0", "first 0", ""]


def telling_scheme(source, kinds):
    """Return a scheme of these kinds that shows much; a random source picks it."""
    threads = [source.choice(TELLING) for _ in range(source.randint(2, 3))]
    return scheme_of(*threads, handler=source.choice(TELLING + WRITING), kinds=kinds)


def some_kinds(source, least, most):
    """Return a set of kinds that a random source picks."""
    return tuple(sorted(source.sample(ALL_KINDS, source.randint(least, most)), key=ALL_KINDS.index))


def some_scheme(source):
    """Return a scheme that a random source picks."""
    threads = tuple(some_code(source, 1, 5) for _ in range(source.randint(1, 3)))
    kinds = tuple(kind for kind in ALL_KINDS if source.random() < 0.8)
    return Scheme(threads, handler=some_code(source, 0, 3), kinds=kinds)


def some_world(source, kinds=ALL_KINDS):
    """Return a world of these kinds that a random source picks."""
    choices = {
        "rings": (False, False, True), "alarms": (False, False, True), "ticks": (False, True),
        "words": (None, None, 1, 2), "results": (0, 1, 2), "firsts": (0, 1, 2),
    }
    quiet = {"words": None, "results": 0, "firsts": 0}
    return tuple(source.choice(choices[k]) if k in kinds else quiet.get(k, False) for k in ALL_KINDS)
