"""A step of the machine, as a function from its state to the next one.

A state is the tuple that `Machine.state` gives: the threads, the index of the current one, the handler, the cells,
the clock, the waiting words, whether a word was lost, whether alarms are open, whether one is pending.
"""

from samerun.schemes import QUIET

MOST_WORDS = 2


def beginning(scheme):
    """Return the state at the beginning."""
    return ((0, 0),) * len(scheme.threads), 0, None, (0, 0, 0), 0, (), False, True, False


def stepped(scheme, state, world):
    """Return the state after a step with a world, and what this step shows."""
    return instructed(scheme, before_instruction(scheme, state, world), world)


def instructed(scheme, ready, world):
    """Return the state after the instruction of a step, and what it shows, from the state right ahead of it."""
    threads, current, handler, cells, clock, words, lost, heard, pending = ready
    code, place, hand = turn(scheme, ready)
    instruction = code[place]
    word = instruction[0]
    following = place_after(instruction, place, hand)
    held = hand_after(instruction, hand, ready, world)
    if handler is None:
        threads = replaced(threads, current, (following % len(code), held))
    else:
        handler = (following, held) if following < len(code) else None
    cells = cells_after(instruction, hand, cells, world)
    words = words[1:] if word == "take" else words
    lost = lost and word != "spilt"
    heard = word == "open" or (heard and word != "shut")
    told = hand if word == "show" else None
    return (threads, current, handler, cells, clock, words, lost, heard, pending), told


def before_instruction(scheme, state, world):
    """Return the state after all that a step does ahead of its instruction."""
    threads, current, handler, cells, clock, words, lost, heard, pending = state
    rings, alarms, ticks, arrived = world[:4]
    if ticks:
        clock = (clock + 1) % 3
    if arrived is not None and len(words) == MOST_WORDS:
        lost = True
    elif arrived is not None:
        words = words + (arrived,)
    pending = pending or alarms
    if rings and handler is None:
        current = (current + 1) % len(threads)
    if pending and heard and handler is None and len(scheme.handler) > 0:
        handler, pending = (0, 0), False
    return threads, current, handler, cells, clock, words, lost, heard, pending


def turn(scheme, state):
    """Return the code whose instruction is the next one, with its place and its hand."""
    threads, current, handler = state[:3]
    if handler is None:
        place, hand = threads[current]
        return scheme.threads[current], place, hand
    place, hand = handler
    return scheme.handler, place, hand


def upcoming(scheme, state):
    """Return the index of the thread, None for the handler, and the instruction that a quiet step does."""
    # An alarm that is pending may begin the handler even if nothing happens.
    ready = before_instruction(scheme, state, QUIET)
    current, handler = ready[1:3]
    code, place = turn(scheme, ready)[:2]
    who = current if handler is None else None
    return who, code[place]


def place_after(instruction, place, hand):
    """Return the place behind an instruction; it may be the one behind the last instruction."""
    word, number = instruction
    return number if word == "jump" and hand == 0 else place + 1


def hand_after(instruction, hand, state, world):
    """Return what an instruction leaves in the hand."""
    word, number = instruction
    cells, clock, words, lost = state[3:7]
    if word == "set":
        return number
    if word == "load":
        return cells[number]
    if word == "add":
        return (hand + cells[number]) % 3
    if word == "time":
        return clock
    if word == "take":
        return words[0] if len(words) > 0 else 0
    if word == "count":
        return len(words)
    if word == "spilt":
        return 1 if lost else 0
    if word == "call":
        return world[4]
    return hand


def cells_after(instruction, hand, cells, world):
    """Return the cells behind an instruction."""
    word, number = instruction
    if word == "save":
        return replaced(cells, number, hand)
    if word == "first":
        return replaced(cells, number, world[5])
    return cells


def replaced(items, index, item):
    """Return a tuple with another item at an index."""
    return items[:index] + (item,) + items[index + 1:]
