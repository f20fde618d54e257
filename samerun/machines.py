"""The machine."""

from samerun.errors import BadWorlds
from samerun.schemes import check_scheme, is_world
from samerun.stepping import beginning, stepped, upcoming


class Machine:
    """A machine that runs the program of a scheme, at first at the beginning."""

    def __init__(self, scheme):
        check_scheme(scheme)
        self._scheme = scheme
        self._state = beginning(scheme)
        self._steps = 0

    @property
    def scheme(self):
        """The scheme whose program the machine runs."""
        return self._scheme

    @property
    def steps(self):
        """The number of steps so far."""
        return self._steps

    @property
    def state(self):
        """The state, a tuple of nine parts."""
        return self._state

    def step(self, world):
        """Do a step with a world, and return what it shows."""
        if not is_world(self._scheme, world):
            raise BadWorlds(None)
        self._state, told = stepped(self._scheme, self._state, world)
        self._steps += 1
        return told

    def next(self):
        """Return the index of the thread, None for the handler, and the instruction that a quiet step would do."""
        return upcoming(self._scheme, self._state)

    def copy(self):
        """Return an independent machine that is as this one."""
        other = machine_at(self._scheme, self._state)
        other._steps = self._steps
        return other

    def __eq__(self, other):
        if not isinstance(other, Machine):
            return False
        return self._scheme == other._scheme and self._state == other._state


def machine_at(scheme, state):
    """Return a machine in a state, without steps so far."""
    machine = Machine(scheme)
    machine._state = state
    return machine
