"""Questions about the past of a run: who wrote a cell, where a number comes from, and what matters for it."""

from samerun.checks import check_run, check_step
from samerun.errors import BadCell, BadNumber
from samerun.origins import Tracer
from samerun.playing import noted, noted_world, shown_by
from samerun.schemes import ALL_KINDS, is_number
from samerun.stepping import before_instruction, beginning, stepped, turn


def writer(scheme, worlds, step, cell):
    """Return the last step before a step that writes a cell, None if there is none."""
    check_run(scheme, worlds)
    check_step(step, len(worlds))
    if not is_number(cell, 0, 2):
        raise BadCell("this is not a cell")
    found = None
    for index, state in enumerate(states_before(scheme, worlds[:step])):
        if writes(scheme, state, worlds[index], cell):
            found = index
    return found


def first_shown(scheme, worlds, number):
    """Return the first step that shows a number, None if there is none."""
    check_run(scheme, worlds)
    if not is_number(number, 0, 2):
        raise BadNumber("this is not a number that can be shown")
    told = shown_by(scheme, worlds)
    return told.index(number) if number in told else None


def origin(scheme, worlds, step):
    """Return the origin of what a step shows, a list of pairs of a step and a kind, None if it shows nothing."""
    check_run(scheme, worlds)
    check_step(step, len(worlds) - 1)
    tracer = Tracer(scheme)
    found = None
    for index, world in enumerate(worlds[:step + 1]):
        found = tracer.step(index, world)
    return None if found is None else [(index, ALL_KINDS[kind]) for index, kind in found]


def matters(scheme, worlds, step):
    """Return the list of the pairs of a step and a kind of the parts that matter for what a step shows."""
    check_run(scheme, worlds)
    check_step(step, len(worlds) - 1)
    run = list(worlds[:step + 1])
    states = states_before(scheme, run)
    found = []
    for index, world in enumerate(run):
        pairs = noted(world, scheme.kinds)
        for kind, _ in pairs:
            other = noted_world([pair for pair in pairs if pair[0] != kind])
            if ends_otherwise(scheme, run, states, index, other):
                found.append((index, kind))
    return found


def states_before(scheme, worlds):
    """Return the list of the states in which the steps of a run begin."""
    state = beginning(scheme)
    found = []
    for world in worlds:
        found.append(state)
        state = stepped(scheme, state, world)[0]
    return found


def writes(scheme, state, world, cell):
    """Return whether the step with a world writes a cell."""
    code, place = turn(scheme, before_instruction(scheme, state, world))[:2]
    return code[place] in (("save", cell), ("first", cell))


def ends_otherwise(scheme, worlds, states, index, other):
    """Return whether the last step of a run shows something else if the step at an index has another world."""
    state, told = stepped(scheme, states[index], other)
    for later in range(index + 1, len(worlds)):
        # From the same state on, both runs are the same.
        if state == states[later]:
            return False
        state, told = stepped(scheme, state, worlds[later])
    return told != stepped(scheme, states[-1], worlds[-1])[1]
