"""Whether each run of a scheme is played the same with a set of kinds, with evidence for the answer."""

from samerun.checks import check_kinds
from samerun.errors import TooLarge
from samerun.likeness import alike
from samerun.moves import Moves
from samerun.playing import parted, quieted, shown_by
from samerun.schemes import check_scheme

MOST_PAIRS = 2000


class Always:
    """Each run is played the same: a closed list of pairs of states, in the run and in the player."""

    def __init__(self, pairs):
        self.pairs = list(pairs)

    def shows(self, scheme, kinds):
        """Return whether the pairs prove that each run of a scheme is played the same with a set of kinds."""
        check_scheme(scheme)
        check_kinds(scheme, kinds)
        return are_closed(self.pairs, scheme, kinds)

    def __eq__(self, other):
        if not isinstance(other, Always):
            return False
        return alike(self.pairs, other.pairs)


class Sometimes:
    """Some run is not played the same: its worlds, up to the first step that shows something else."""

    def __init__(self, worlds):
        self.worlds = worlds

    def shows(self, scheme, kinds):
        """Return whether the run of these worlds and its player part at its last step."""
        check_scheme(scheme)
        check_kinds(scheme, kinds)
        return part_at_last(self.worlds, scheme, kinds)

    def __eq__(self, other):
        if not isinstance(other, Sometimes):
            return False
        return alike(self.worlds, other.worlds)


def decide(scheme, kinds):
    """Return an Always or a Sometimes for a scheme and a set of kinds."""
    check_scheme(scheme)
    check_kinds(scheme, kinds)
    return decided(Moves(scheme), kinds)


def is_enough(scheme, kinds):
    """Return whether each run of a scheme is played the same with a set of kinds."""
    return isinstance(decide(scheme, kinds), Always)


def decided(moves, kinds):
    """Return what `decide` returns for a set of kinds that is known to be right."""
    heard = heard_by(moves, kinds)
    start = (moves.start, moves.start)
    came = {start: None}
    level = [start]
    while len(level) > 0:
        # Too many pairs are an error only once all runs of this length are known to be played the same.
        if len(came) > MOST_PAIRS:
            raise TooLarge("the runs lead to too many pairs of states")
        level, last = next_level(moves, heard, came, level)
        if last is not None:
            return Sometimes(worlds_along(moves, came, last))
    return Always([(moves.states[there], moves.states[here]) for there, here in came])


def heard_by(moves, kinds):
    """Return the list of the indices of the worlds that the player has instead of those of the run."""
    indices = {world: index for index, world in enumerate(moves.worlds)}
    return [indices[quieted(world, kinds)] for world in moves.worlds]


def next_level(moves, heard, came, level):
    """Return the list of the new pairs that one more step leads to, and None, or how a step that parts is reached.

    `came` gets the new pairs, each with the pair before it and the index of the world between them.
    """
    found = []
    for pair in level:
        for index, (same, following) in enumerate(led_to(moves, heard, pair)):
            if not same:
                return [], (pair, index)
            if following not in came:
                came[following] = (pair, index)
                found.append(following)
    return found, None


def led_to(moves, heard, pair):
    """Return a list, for each world, of whether both show the same and the pair that it leads to."""
    run, player = moves.after(pair[0]), moves.after(pair[1])
    both = [(there, player[index]) for there, index in zip(run, heard)]
    return [(there[1] == here[1], (there[0], here[0])) for there, here in both]


def worlds_along(moves, came, last):
    """Return the tuple of the worlds that lead to a last step, given as the pair before it and its world."""
    found = []
    step = last
    while step is not None:
        pair, index = step
        found.append(moves.worlds[index])
        step = came[pair]
    return tuple(found[::-1])


def are_closed(pairs, scheme, kinds):
    """Return whether pairs of states contain that of the beginnings, and no world leads out of them or parts."""
    moves = Moves(scheme)
    heard = heard_by(moves, kinds)
    known = {(moves.number(there), moves.number(here)): True for there, here in pairs}
    for pair in known:
        for same, following in led_to(moves, heard, pair):
            if not same or following not in known:
                return False
    return (moves.start, moves.start) in known


def part_at_last(worlds, scheme, kinds):
    """Return whether a run shows something else than its player at its last step, and not before."""
    found = parted(scheme, shown_by(scheme, worlds), [quieted(world, kinds) for world in worlds])
    return found is not None and found.index == len(worlds) - 1
