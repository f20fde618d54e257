"""Players that go forwards and backwards, with marks that keep states, and what they cost."""

from samerun.checks import check_notes, check_number, check_step
from samerun.errors import BadMarks, BadStep
from samerun.playing import noted_world
from samerun.schemes import check_scheme, is_number
from samerun.stepping import beginning, stepped

MOST_GOALS = 50
WIDEST_SPACING = 50
MOST_ROOM = 5


class Player:
    """A player with the notes of a run. It can go to each step; at some steps, marks keep the state."""

    def __init__(self, scheme, many, notes, *, spacing=10, room=3):
        check_scheme(scheme)
        check_number(many)
        check_notes(scheme, many, notes)
        check_spacing(spacing)
        check_room(room)
        self._scheme = scheme
        self._many = many
        self._notes = dict(notes)
        self._spacing = spacing
        self._room = room
        self._at = 0
        self._total = 0
        self._state = beginning(scheme)
        self._kept = {0: self._state}
        self._told = []

    @property
    def at(self):
        """The step at which the player is."""
        return self._at

    @property
    def marks(self):
        """The ascending list of the steps of the marks."""
        return list(self._kept)

    @property
    def total(self):
        """How many steps the player has done in all."""
        return self._total

    @property
    def state(self):
        """The state at this step."""
        return self._state

    @property
    def shown(self):
        """The list of what the steps up to this one show."""
        return self._told[:self._at]

    def go(self, step):
        """Go to a step, and return how many steps this takes."""
        check_step(step, self._many)
        start = start_of(self.marks, self._at, step)
        if start != self._at:
            self._state = self._kept[start]
        for done in range(start, step):
            self._do(done)
        self._at = step
        self._total += step - start
        return step - start

    def _do(self, step):
        world = noted_world(self._notes.get(step, ()))
        self._state, told = stepped(self._scheme, self._state, world)
        # A step that is done again shows what it has shown before.
        if step == len(self._told):
            self._told.append(told)
        if (step + 1) % self._spacing == 0:
            self._mark(step + 1)

    def _mark(self, step):
        left = marks_after(self.marks, step, self._many, self._room)
        kept = {**self._kept, step: self._state}
        self._kept = {mark: kept[mark] for mark in left}


def costs(many, goals, *, spacing=10, room=3):
    """Return the list of how many steps a player does that goes to these steps one after the other."""
    check_number(many)
    check_goals(many, goals)
    check_spacing(spacing)
    check_room(room)
    return costs_of(many, goals, spacing, room)


def best_spacing(many, goals, *, room=3):
    """Return the least spacing with which the sum of the costs is least, and this sum."""
    check_number(many)
    check_goals(many, goals)
    check_room(room)
    spacings = range(1, WIDEST_SPACING + 1)
    sums = [(sum(costs_of(many, goals, spacing, room)), spacing) for spacing in spacings]
    least, best = min(sums)
    return best, least


def check_spacing(spacing):
    """Raise BadMarks if an argument is not a spacing."""
    if not is_number(spacing, 1, WIDEST_SPACING):
        raise BadMarks("this is not a spacing")


def check_room(room):
    """Raise BadMarks if an argument is not a room for marks."""
    if not is_number(room, 1, MOST_ROOM):
        raise BadMarks("this is not a room for marks")


def check_goals(many, goals):
    """Raise BadStep if an argument is not some steps of a run with so many steps."""
    if not isinstance(goals, (list, tuple)) or len(goals) > MOST_GOALS:
        raise BadStep("these are not steps to go to")
    for goal in goals:
        check_step(goal, many)


def costs_of(many, goals, spacing, room):
    """Return what `costs` returns for arguments that are known to be right."""
    marks, at, found = [0], 0, []
    for goal in goals:
        start = start_of(marks, at, goal)
        for step in range(start - start % spacing + spacing, goal + 1, spacing):
            marks = marks_after(marks, step, many, room)
        found.append(goal - start)
        at = goal
    return found


def start_of(marks, at, goal):
    """Return the step at which a player begins that is at a step and goes to another one."""
    return max([step for step in marks + [at] if step <= goal])


def marks_after(marks, step, many, room):
    """Return the ascending list of the marks when the player has come to a multiple of the spacing."""
    if step in marks:
        return marks
    found = sorted(marks + [step])
    if len(found) > room:
        found.remove(given_up(found, many))
    return found


def given_up(marks, many):
    """Return the mark that is given up among these, the first one of those with the nearest neighbours."""
    ends = marks + [many]
    distances = [ends[index + 1] - ends[index - 1] for index in range(1, len(marks))]
    return marks[distances.index(min(distances)) + 1]
