"""Searches of the tests' own, over the second machine: all runs of a scheme, and players with any notes of a run."""

import itertools

from samerun.schemes import ALL_KINDS, QUIET
from tests.reference import Reference

PARTS = {
    "rings": [False, True], "alarms": [False, True], "ticks": [False, True],
    "words": [None, 1, 2], "results": [0, 1, 2], "firsts": [0, 1, 2],
}


def subsets(kinds):
    """Return all sets of these kinds: by the number of their kinds, then by the indices of these."""
    found = []
    for bits in itertools.product([0, 1], repeat=len(kinds)):
        found.append(tuple(kind for kind, bit in zip(kinds, bits) if bit))
    return sorted(found, key=lambda each: (len(each), [ALL_KINDS.index(kind) for kind in each]))


def worlds_of(scheme):
    """Return all worlds of a scheme."""
    parts = [PARTS[kind] if kind in scheme.kinds else [quiet] for kind, quiet in zip(ALL_KINDS, QUIET)]
    return list(itertools.product(*parts))


def with_only(each, kinds):
    """Return a world with the parts of these kinds alone."""
    return tuple(part if kind in kinds else quiet for kind, part, quiet in zip(ALL_KINDS, each, QUIET))


def placed(scheme, state):
    """Return a second machine in a state."""
    made = Reference(scheme.threads, scheme.handler)
    threads, made.current, handler, cells, made.clock, waiting, made.mark, made.alarms_open, made.pending = state
    made.places, made.hands = [place for place, _ in threads], [hand for _, hand in threads]
    made.cells, made.waiting = list(cells), list(waiting)
    made.runs = handler is not None
    if made.runs:
        made.handler_place, made.handler_hand = handler
    return made


def told_by(scheme, worlds):
    """Return what a run shows."""
    reference = Reference(scheme.threads, scheme.handler)
    return [reference.step(each) for each in worlds]


def first_apart(there, here):
    """Return the first index at which two lists differ, with both items, or None."""
    for at, (one, other) in enumerate(zip(there, here)):
        if repr(one) != repr(other):
            return at, one, other
    return None


def apart(scheme, worlds, kinds):
    """Return where a run and its player with a set of kinds part, as a triple, or None."""
    return first_apart(told_by(scheme, worlds), told_by(scheme, [with_only(each, kinds) for each in worlds]))


class Search:
    """All runs of a scheme, for several sets of kinds."""

    def __init__(self, scheme):
        self.scheme = scheme
        self.worlds = worlds_of(scheme)
        self.start = Reference(scheme.threads, scheme.handler).state()
        self.kept = {}

    def step(self, state, each):
        """Return the next state, and what the step shows."""
        if (state, each) not in self.kept:
            machine = placed(self.scheme, state)
            told = machine.step(each)
            self.kept[state, each] = (machine.state(), told)
        return self.kept[state, each]

    def leads(self, pair, kinds):
        """Return what each world leads to from a pair: the next pair, and whether both show the same."""
        found = []
        for each in self.worlds:
            (there, told), (here, heard) = self.step(pair[0], each), self.step(pair[1], with_only(each, kinds))
            found.append(((there, here), told == heard))
        return found

    def answer(self, kinds, most=2000):
        """Return the number of pairs, or minus the length of the shortest runs that part, or None if too large."""
        seen, level, length = {(self.start, self.start)}, [(self.start, self.start)], 0
        while level:
            if len(seen) > most:
                return None
            length += 1
            leads = [lead for pair in level for lead in self.leads(pair, kinds)]
            if not all(same for _, same in leads):
                return -length
            level = sorted({pair for pair, _ in leads} - seen, key=repr)
            seen.update(level)
        return len(seen)

    def closed(self, pairs, kinds):
        """Return whether a list of pairs shows that each run is played the same."""
        if (self.start, self.start) not in pairs:
            return False
        return all(same and pair in pairs for each in pairs for pair, same in self.leads(each, kinds))
