"""Sessions: a run that is recorded and played along, step by step, with undoing, branches and trials."""

from samerun.checks import LONGEST_RUN, check_kinds, check_worlds
from samerun.errors import BadWorlds, NothingDone
from samerun.machines import Machine
from samerun.playing import notes_of, quieted
from samerun.schemes import check_scheme, is_world


class Session:
    """A recorder and a player that go along with each other."""

    def __init__(self, scheme, kinds):
        check_scheme(scheme)
        check_kinds(scheme, kinds)
        self._scheme = scheme
        self._kinds = kinds
        # A row has a world, what both show, and both machines as they are then; these machines do no more steps.
        self._rows = []
        # How many of the rows cannot be undone, as they are from before the trial.
        self._floor = 0

    @property
    def journal(self):
        """The list of triples of a world and what both show."""
        return [row[:3] for row in self._rows]

    @property
    def notes(self):
        """The notes so far, a dict."""
        return notes_of([row[0] for row in self._rows], self._kinds)

    @property
    def apart(self):
        """The first step at which both show something else, None if there is none."""
        for index, row in enumerate(self._rows):
            if row[1] != row[2]:
                return index
        return None

    def __len__(self):
        return len(self._rows)

    def machines(self):
        """Return a pair of copies of the recorder's machine and the player's."""
        if len(self._rows) == 0:
            return Machine(self._scheme), Machine(self._scheme)
        recorder, player = self._rows[-1][3:]
        return recorder.copy(), player.copy()

    def step(self, world):
        """Do a step of both machines, and return a pair of what they show."""
        if not is_world(self._scheme, world) or len(self._rows) >= LONGEST_RUN:
            raise BadWorlds(None)
        recorder, player = self.machines()
        there = recorder.step(world)
        here = player.step(quieted(world, self._kinds))
        self._rows.append((world, there, here, recorder, player))
        return there, here

    def undo(self):
        """Take back the last step, and return its world."""
        if len(self._rows) <= self._floor:
            raise NothingDone("there is no step to undo")
        return self._rows.pop()[0]

    def branch(self):
        """Return an independent session with the same journal."""
        other = Session(self._scheme, self._kinds)
        other._rows = list(self._rows)
        return other

    def trial(self):
        """Return what gives this session to a with-block, behind which everything is as before it."""
        return Trial(self)

    def tried(self, worlds):
        """Do steps in a trial, and return the list of the pairs of what both show."""
        check_worlds(self._scheme, worlds, LONGEST_RUN - len(self._rows))
        found = []
        with self.trial():
            for world in worlds:
                found.append(self.step(world))
        return found


class Trial:
    """A with-block for a session, at whose end the session is as at its beginning."""

    def __init__(self, session):
        self._session = session
        self._rows = []
        self._floor = 0

    def __enter__(self):
        session = self._session
        self._rows = list(session._rows)
        self._floor = session._floor
        session._floor = len(session._rows)
        return session

    def __exit__(self, kind, value, trace):
        session = self._session
        session._rows = self._rows
        session._floor = self._floor
