"""What a run shows, its notes, and what a player shows that has nothing but these notes."""

from samerun.checks import check_kinds, check_run
from samerun.likeness import alike
from samerun.schemes import ALL_KINDS, QUIET
from samerun.stepping import beginning, stepped


class Same:
    """The player shows the same as the run, at each step."""

    def shows(self, scheme, worlds, kinds):
        """Return whether this is the answer for a run and a set of kinds."""
        return self == compare(scheme, worlds, kinds)

    def __eq__(self, other):
        if not isinstance(other, Same):
            return False
        return True


class Parts:
    """The first step at which the player shows something else; what the run shows there, and what the player."""

    def __init__(self, index, there, here):
        self.index = index
        self.there = there
        self.here = here

    def shows(self, scheme, worlds, kinds):
        """Return whether this is the answer for a run and a set of kinds."""
        return self == compare(scheme, worlds, kinds)

    def __eq__(self, other):
        if not isinstance(other, Parts):
            return False
        return alike((self.index, self.there, self.here), (other.index, other.there, other.here))


def shown(scheme, worlds):
    """Return the list of what the steps of a run show."""
    check_run(scheme, worlds)
    return shown_by(scheme, worlds)


def shown_by(scheme, worlds):
    """Return what a run shows whose worlds are known to be right."""
    state = beginning(scheme)
    found = []
    for world in worlds:
        state, told = stepped(scheme, state, world)
        found.append(told)
    return found


def notes(scheme, worlds, kinds):
    """Return the notes of a run for a set of kinds."""
    check_run(scheme, worlds)
    check_kinds(scheme, kinds)
    return notes_of(worlds, kinds)


def notes_of(worlds, kinds):
    """Return the notes of a run whose worlds are known to be right."""
    found = {}
    for step, world in enumerate(worlds):
        pairs = noted(world, kinds)
        if len(pairs) > 0:
            found[step] = pairs
    return found


def noted(world, kinds):
    """Return the pairs of a kind and a part that are noted of a world."""
    parts = list(zip(ALL_KINDS, world, QUIET))
    return tuple([(kind, part) for kind, part, quiet in parts if kind in kinds and part != quiet])


def size(notes):
    """Return the number of all pairs of notes."""
    return sum([len(pairs) for pairs in notes.values()])


def played(scheme, worlds, kinds):
    """Return the list of what the player shows that has the notes of a run for a set of kinds."""
    found = notes(scheme, worlds, kinds)
    return shown_by(scheme, [noted_world(found.get(step, ())) for step in range(len(worlds))])


def noted_world(pairs):
    """Return the world that has the noted parts and is quiet otherwise."""
    parts = dict(pairs)
    return tuple([parts.get(kind, quiet) for kind, quiet in zip(ALL_KINDS, QUIET)])


def quieted(world, kinds):
    """Return the world that has the parts of these kinds and is quiet otherwise."""
    return tuple([part if kind in kinds else quiet for kind, part, quiet in zip(ALL_KINDS, world, QUIET)])


def compare(scheme, worlds, kinds):
    """Return Same if a run is played the same with a set of kinds, otherwise where they part."""
    there = shown(scheme, worlds)
    check_kinds(scheme, kinds)
    found = parted(scheme, there, [quieted(world, kinds) for world in worlds])
    return Same() if found is None else found


def parted(scheme, there, worlds):
    """Return the Parts for the first step at which a player with these worlds shows what is not there, or None."""
    state = beginning(scheme)
    for index, world in enumerate(worlds):
        state, here = stepped(scheme, state, world)
        if here != there[index]:
            return Parts(index, there[index], here)
    return None
