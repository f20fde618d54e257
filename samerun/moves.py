"""The steps of a machine from a state with each world of a scheme, each worked out once."""

from itertools import product

from samerun.schemes import ALL_KINDS, QUIET
from samerun.stepping import before_instruction, beginning, instructed, turn

PARTS = {
    "rings": (False, True), "alarms": (False, True), "ticks": (False, True),
    "words": (None, 1, 2), "results": (0, 1, 2), "firsts": (0, 1, 2),
}


class Moves:
    """The steps of a scheme. States have numbers here, which are quicker to look up than the states themselves."""

    def __init__(self, scheme):
        rings, alarms, ticks, arriving, results, firsts = possible_parts(scheme)
        self._scheme = scheme
        self._heads = list(product(rings, alarms, ticks, arriving))
        self._tails = list(product(results, firsts))
        self._numbers = {}
        self._rows = {}
        self.worlds = [head + tail for head in self._heads for tail in self._tails]
        self.states = []
        self.start = self.number(beginning(scheme))

    def number(self, state):
        """Return the number of a state, which is its index in `states`."""
        if state not in self._numbers:
            self._numbers[state] = len(self.states)
            self.states.append(state)
        return self._numbers[state]

    def after(self, number):
        """Return a list, in the order of `worlds`, of pairs: the number of the next state, and what is shown."""
        if number not in self._rows:
            self._rows[number] = self._after_state(self.states[number])
        return self._rows[number]

    def _after_state(self, state):
        found = []
        for head in self._heads:
            ready = before_instruction(self._scheme, state, head)
            found.extend(self._moves_of(ready, head))
        return found

    def _moves_of(self, ready, head):
        code, place = turn(self._scheme, ready)[:2]
        if code[place][0] in ("call", "first"):
            return [self._move(ready, head + tail) for tail in self._tails]
        # No other instruction asks for a result or a first content, so these steps are all the same.
        return [self._move(ready, head + self._tails[0])] * len(self._tails)

    def _move(self, ready, world):
        state, told = instructed(self._scheme, ready, world)
        return self.number(state), told


def possible_parts(scheme):
    """Return, for each of the six kinds, the list of the parts that it can have in a world of the scheme."""
    kinds = scheme.kinds
    return [list(PARTS[kind]) if kind in kinds else [quiet] for kind, quiet in zip(ALL_KINDS, QUIET)]
