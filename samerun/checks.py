"""Checks of arguments that several files share, each in the order of the document."""

from samerun.errors import BadKinds, BadNotes, BadNumber, BadStep, BadWorlds
from samerun.schemes import check_scheme, is_kinds_of, is_number, is_world

LONGEST_RUN = 200


def check_run(scheme, worlds):
    """Raise BadScheme, or BadWorlds if an argument is not the worlds of a run of the scheme."""
    check_scheme(scheme)
    check_worlds(scheme, worlds, LONGEST_RUN)


def check_worlds(scheme, worlds, most):
    """Raise BadWorlds if an argument is not a list or tuple of worlds of the scheme, not more than most."""
    if not isinstance(worlds, (list, tuple)) or len(worlds) > most:
        raise BadWorlds(None)
    for index, world in enumerate(worlds):
        if not is_world(scheme, world):
            raise BadWorlds(index)


def check_kinds(scheme, kinds):
    """Raise BadKinds if an argument is not a set of kinds that can happen."""
    if not is_kinds_of(scheme.kinds, kinds):
        raise BadKinds("this is not a set of kinds that can happen")


def check_number(many):
    """Raise BadNumber if an argument is not a number of steps that a run can have."""
    if not is_number(many, 0, LONGEST_RUN):
        raise BadNumber("this is not a number of steps")


def check_step(step, last):
    """Raise BadStep if an argument is not a step up to the last one."""
    if not is_number(step, 0, last):
        raise BadStep("this is not a step of the run")


def check_notes(scheme, many, notes):
    """Raise BadNotes if an argument is not notes of a run of the scheme with so many steps."""
    if not isinstance(notes, dict):
        raise BadNotes("notes are a dict")
    for step, pairs in notes.items():
        if not is_number(step, 0, many - 1) or not are_pairs(scheme, pairs):
            raise BadNotes("these are not notes of such a run")


def are_pairs(scheme, value):
    """Return whether a value is what can be noted of one step: one or more pairs, in the order of the kinds."""
    if not isinstance(value, tuple) or len(value) == 0:
        return False
    if not all([isinstance(item, tuple) and len(item) == 2 for item in value]):
        return False
    if not is_kinds_of(scheme.kinds, tuple([kind for kind, _ in value])):
        return False
    return all([is_loud(kind, part) for kind, part in value])


def is_loud(kind, part):
    """Return whether a value is a part of this kind that is not quiet."""
    if kind in ("rings", "alarms", "ticks"):
        return isinstance(part, bool) and part
    return is_number(part, 1, 2)
