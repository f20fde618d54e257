"""The origins of the numbers in a machine.

An origin is an ascending tuple of different pairs of a step and the index of a kind.
"""

from samerun.schemes import ALL_KINDS
from samerun.stepping import MOST_WORDS, before_instruction, beginning, instructed, turn


class Tracer:
    """A machine that knows the origin of each number in it."""

    def __init__(self, scheme):
        self._scheme = scheme
        self._state = beginning(scheme)
        # The last hand is that of the handler.
        self._hands = [()] * (len(scheme.threads) + 1)
        self._cells = [(), (), ()]
        self._clock = ()
        self._waiting = []
        self._mark = ()

    def step(self, index, world):
        """Do the step with this index, and return the origin of what it shows, None if it shows nothing."""
        self._receive(index, world)
        if self._state[2] is None:
            self._hands[-1] = ()
        ready = before_instruction(self._scheme, self._state, world)
        code, place = turn(self._scheme, ready)[:2]
        current, handler = ready[1:3]
        who = current if handler is None else -1
        held = self._hands[who]
        self._write(code[place], held, index, world)
        self._hands[who] = self._brought(code[place], held, index, world)
        self._state, told = instructed(self._scheme, ready, world)
        return None if told is None else held

    def _receive(self, index, world):
        if world[2]:
            self._clock = joined([self._clock, coming("ticks", index)])
        if world[3] is None:
            return
        if len(self._waiting) == MOST_WORDS:
            self._mark = joined([self._mark, coming("words", index)])
        else:
            self._waiting.append(coming("words", index))

    def _write(self, instruction, held, index, world):
        word, number = instruction
        if word == "save":
            self._cells[number] = held
        if word == "first":
            self._cells[number] = coming("firsts", index) if world[5] != 0 else ()

    def _brought(self, instruction, held, index, world):
        """Return the origin of the hand behind an instruction; a word or a mark that is asked for is gone then."""
        word, number = instruction
        if word == "set":
            return ()
        if word == "load":
            return self._cells[number]
        if word == "add":
            return joined([held, self._cells[number]])
        if word == "time":
            return self._clock
        if word == "take":
            return self._waiting.pop(0) if len(self._waiting) > 0 else ()
        if word == "count":
            return joined(self._waiting)
        if word == "spilt":
            mark, self._mark = self._mark, ()
            return mark
        if word == "call":
            return coming("results", index) if world[4] != 0 else ()
        return held


def coming(kind, index):
    """Return the origin of what comes with this kind at a step."""
    return ((index, ALL_KINDS.index(kind)),)


def joined(origins):
    """Return the origin that has all pairs of these."""
    return tuple(sorted({pair for origin in origins for pair in origin}))
