"""Which kinds must be noted: for all runs of a scheme, and for one run."""

from itertools import combinations

from samerun.checks import check_run
from samerun.deciding import Always, are_closed, decided, part_at_last
from samerun.likeness import alike
from samerun.moves import Moves
from samerun.playing import noted, noted_world, parted, shown_by
from samerun.schemes import check_scheme


class Matter:
    """The kinds that matter, pairs of states that show them to be enough, and worlds that show each to be needed."""

    def __init__(self, chosen, pairs, doubts):
        self.chosen = chosen
        self.pairs = list(pairs)
        self.doubts = dict(doubts)

    def shows(self, scheme):
        """Return whether the pairs and the doubts prove that these are the kinds that matter."""
        check_scheme(scheme)
        if not are_closed(self.pairs, scheme, self.chosen):
            return False
        return len(self.doubts) == len(self.chosen) and all([self._doubts(scheme, kind) for kind in self.chosen])

    def _doubts(self, scheme, kind):
        if kind not in self.doubts:
            return False
        return part_at_last(self.doubts[kind], scheme, without(self.chosen, kind))

    def __eq__(self, other):
        if not isinstance(other, Matter):
            return False
        return alike((self.chosen, self.pairs, self.doubts), (other.chosen, other.pairs, other.doubts))


class Smallest:
    """A set of kinds with the least notes that are enough for a run, and where each set with smaller ones parts."""

    def __init__(self, chosen, doubts):
        self.chosen = chosen
        self.doubts = {kinds: doubts[kinds] for kinds in doubts}

    def shows(self, scheme, worlds):
        """Return whether no set of kinds that is enough for a run has smaller notes, and the doubts tell why."""
        check_run(scheme, worlds)
        trials = tried_sets(scheme, worlds)
        return self.chosen in smallest_sets(trials) and alike(self.doubts, smaller_doubts(trials))

    def __eq__(self, other):
        if not isinstance(other, Smallest):
            return False
        return alike((self.chosen, self.doubts), (other.chosen, other.doubts))


def matter(scheme):
    """Return a Matter for a scheme."""
    check_scheme(scheme)
    moves = Moves(scheme)
    chosen = tuple([kind for kind in scheme.kinds if matters_to(moves, scheme.kinds, kind)])
    doubts = {kind: decided(moves, without(chosen, kind)).worlds for kind in chosen}
    return Matter(chosen, decided(moves, chosen).pairs, doubts)


def matters_to(moves, kinds, kind):
    """Return whether all the kinds but one are not enough: then it is in each set that is enough."""
    return not isinstance(decided(moves, without(kinds, kind)), Always)


def without(kinds, kind):
    """Return the set of these kinds without one."""
    return tuple([each for each in kinds if each != kind])


def enough_sets(scheme, worlds):
    """Return the list of the sets of kinds that are enough for a run."""
    check_run(scheme, worlds)
    return [kinds for kinds, _, parts in tried_sets(scheme, worlds) if parts is None]


def least_sets(scheme, worlds):
    """Return the list of the sets that are enough for a run and contain no other one that is."""
    enough = enough_sets(scheme, worlds)
    return [kinds for kinds in enough if not any([other != kinds and is_within(other, kinds) for other in enough])]


def needed(scheme, worlds):
    """Return the list of the kinds that are in each set that is enough for a run."""
    enough = enough_sets(scheme, worlds)
    return [kind for kind in scheme.kinds if all([kind in kinds for kinds in enough])]


def harms(scheme, worlds):
    """Return the list of pairs of a set that is enough for a run and a kind with which it is not."""
    enough = enough_sets(scheme, worlds)
    lacking = [(kinds, kind) for kinds in enough for kind in scheme.kinds if kind not in kinds]
    return [(kinds, kind) for kinds, kind in lacking if with_kind(scheme, kinds, kind) not in enough]


def smallest(scheme, worlds):
    """Return a Smallest for a run."""
    check_run(scheme, worlds)
    trials = tried_sets(scheme, worlds)
    return Smallest(smallest_sets(trials)[0], smaller_doubts(trials))


def is_within(kinds, others):
    """Return whether all of these kinds are among others."""
    return all([kind in others for kind in kinds])


def with_kind(scheme, kinds, kind):
    """Return the set of these kinds and one in addition."""
    return tuple([each for each in scheme.kinds if each in kinds or each == kind])


def all_sets(kinds):
    """Return the list of all sets of these kinds, the smaller ones first."""
    among = list(kinds)
    return [chosen for many in range(len(among) + 1) for chosen in combinations(among, many)]


def tried_sets(scheme, worlds):
    """Return a list, for each set of kinds, of the set, the size of its notes, and its Parts or None."""
    there = shown_by(scheme, worlds)
    found = []
    for kinds in all_sets(scheme.kinds):
        pairs = [noted(world, kinds) for world in worlds]
        many = sum([len(each) for each in pairs])
        found.append((kinds, many, parted(scheme, there, [noted_world(each) for each in pairs])))
    return found


def least_size(trials):
    """Return the least size of notes that are enough."""
    return min([many for _, many, parts in trials if parts is None])


def smallest_sets(trials):
    """Return the list of the sets that are enough and whose notes have the least size."""
    least = least_size(trials)
    return [kinds for kinds, many, parts in trials if parts is None and many == least]


def smaller_doubts(trials):
    """Return a dict from the sets whose notes are smaller to where they part, as triples."""
    least = least_size(trials)
    return {kinds: (parts.index, parts.there, parts.here) for kinds, many, parts in trials if many < least}
