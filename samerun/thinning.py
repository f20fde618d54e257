"""Which single notes of a run are enough to play it the same."""

from itertools import combinations

from samerun.checks import check_run
from samerun.errors import BadChoice, TooMany
from samerun.likeness import alike
from samerun.playing import Parts, noted, noted_world, parted, shown_by
from samerun.schemes import QUIET, is_number

MOST_SINGLE_NOTES = 8


class Fewest:
    """A shortest choice of single notes that is enough, and where the players with the shorter choices part."""

    def __init__(self, chosen, doubts):
        self.chosen = chosen
        # A Parts can be changed later, so those of the argument are not kept either.
        self.doubts = {choice: Parts(found.index, found.there, found.here) for choice, found in doubts.items()}

    def shows(self, scheme, worlds):
        """Return whether no shorter choice is enough for a run, and the doubts tell why."""
        single = few_notes(scheme, worlds)
        trials = tried_choices(scheme, worlds, single)
        enough = [choice for choice, parts in trials if parts is None]
        length = len(enough[0])
        if not any([alike(self.chosen, choice) for choice in enough if len(choice) == length]):
            return False
        return alike(self.doubts, shorter_doubts(trials, length))

    def __eq__(self, other):
        if not isinstance(other, Fewest):
            return False
        return alike((self.chosen, self.doubts), (other.chosen, other.doubts))


def single_notes(scheme, worlds):
    """Return the list of the single notes of a run, triples of a step, a kind and a part."""
    check_run(scheme, worlds)
    return [(step, kind, part) for step, world in enumerate(worlds) for kind, part in noted(world, scheme.kinds)]


def enough_choices(scheme, worlds):
    """Return the list of the choices of single notes that are enough for a run."""
    single = few_notes(scheme, worlds)
    return [choice for choice, parts in tried_choices(scheme, worlds, single) if parts is None]


def needed_notes(scheme, worlds):
    """Return the list of the indices of the single notes that are in each choice that is enough."""
    single = few_notes(scheme, worlds)
    enough = enough_choices(scheme, worlds)
    return [index for index in range(len(single)) if all([index in choice for choice in enough])]


def fewest(scheme, worlds):
    """Return a Fewest for a run."""
    single = few_notes(scheme, worlds)
    trials = tried_choices(scheme, worlds, single)
    chosen = [choice for choice, parts in trials if parts is None][0]
    return Fewest(chosen, shorter_doubts(trials, len(chosen)))


def parting(scheme, worlds, choice):
    """Return the Parts for the player that has a choice of the single notes, None if it is enough."""
    single = few_notes(scheme, worlds)
    if not is_choice(choice, len(single)):
        raise BadChoice("this is not a choice of the single notes")
    return parted(scheme, shown_by(scheme, worlds), worlds_with(single, choice, len(worlds)))


def few_notes(scheme, worlds):
    """Return the single notes of a run; raise TooMany if there are too many to try all choices."""
    single = single_notes(scheme, worlds)
    if len(single) > MOST_SINGLE_NOTES:
        raise TooMany("the run has too many single notes")
    return single


def is_choice(value, many):
    """Return whether a value is an ascending tuple of different indices of so many single notes."""
    if not isinstance(value, tuple) or not all([is_number(index, 0, many - 1) for index in value]):
        return False
    return all([before < after for before, after in zip(value, value[1:])])


def all_choices(many):
    """Return the list of all choices of so many single notes, the shorter ones first."""
    return [choice for length in range(many + 1) for choice in combinations(range(many), length)]


def tried_choices(scheme, worlds, single):
    """Return a list, for each choice, of the choice and its Parts or None."""
    there = shown_by(scheme, worlds)
    found = []
    for choice in all_choices(len(single)):
        found.append((choice, parted(scheme, there, worlds_with(single, choice, len(worlds)))))
    return found


def shorter_doubts(trials, length):
    """Return a dict from the choices below this length to their Parts."""
    return {choice: parts for choice, parts in trials if len(choice) < length}


def worlds_with(single, choice, many):
    """Return the worlds of a player with many steps that has exactly the chosen ones of these single notes."""
    pairs = {}
    for index in choice:
        step, kind, part = single[index]
        pairs.setdefault(step, []).append((kind, part))
    return [noted_world(pairs[step]) if step in pairs else QUIET for step in range(many)]
