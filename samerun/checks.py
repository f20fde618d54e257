"""Checks of arguments that several files share, each in the order of the document."""

from samerun.errors import BadKinds, BadWorlds
from samerun.schemes import check_scheme, is_kinds_of, is_world

LONGEST_RUN = 200


def check_run(scheme, worlds):
    """Raise BadScheme, or BadWorlds if an argument is not the worlds of a run of the scheme."""
    check_scheme(scheme)
    if not isinstance(worlds, (list, tuple)) or len(worlds) > LONGEST_RUN:
        raise BadWorlds(None)
    for index, world in enumerate(worlds):
        if not is_world(scheme, world):
            raise BadWorlds(index)


def check_kinds(scheme, kinds):
    """Raise BadKinds if an argument is not a set of kinds that can happen."""
    if not is_kinds_of(scheme.kinds, kinds):
        raise BadKinds("this is not a set of kinds that can happen")
