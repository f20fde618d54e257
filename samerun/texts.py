"""Schemes, worlds and notes as texts, written and read."""

from samerun.checks import LONGEST_RUN, are_pairs, check_notes, check_number, check_run
from samerun.errors import BadText
from samerun.playing import noted, noted_world
from samerun.schemes import ALL_KINDS, GREATEST, QUIET, Scheme, check_scheme, is_code, is_kinds_of

# The numbers that stand in instructions, and those that stand with parts of worlds.
NUMBERS = {"0": 0, "1": 1, "2": 2, "3": 3, "4": 4}
LOUD_NUMBERS = {"1": 1, "2": 2}
WITHOUT_NUMBER = ("rings", "alarms", "ticks")


def scheme_text(scheme):
    """Return the text of a scheme."""
    check_scheme(scheme)
    lines = [code_line("thread", thread) for thread in scheme.threads]
    lines.append(code_line("handler", scheme.handler))
    lines.append(" ".join(["kinds", *scheme.kinds]))
    return text_of(lines)


def worlds_text(scheme, worlds):
    """Return the text of the worlds of a run."""
    check_run(scheme, worlds)
    return text_of([world_line(world) for world in worlds])


def notes_text(scheme, many, notes):
    """Return the text of notes of a run with so many steps."""
    check_scheme(scheme)
    check_number(many)
    check_notes(scheme, many, notes)
    return text_of([f"{step}: {pairs_words(notes[step])}" for step in sorted(notes)])


def read_scheme(text):
    """Return the scheme of a text."""
    lines, rest = lines_of(text)
    threads = threads_at_top(lines)
    row = len(threads)
    # A line that is missing is wrong just as another one at its place.
    if row == 0:
        raise BadText(0)
    handler = code_in(text_at(lines, row), "handler", 0, 3)
    if handler is None:
        raise BadText(row)
    kinds = kinds_in(text_at(lines, row + 1))
    if kinds is None:
        raise BadText(row + 1)
    if len(lines) > row + 2 or rest != "":
        raise BadText(row + 2)
    return Scheme(threads, handler=handler, kinds=kinds)


def read_worlds(scheme, text):
    """Return the list of the worlds of a text."""
    check_scheme(scheme)
    lines, rest = lines_of(text)
    found = []
    for row, line in enumerate(lines):
        world = world_in(scheme, line)
        if world is None or row >= LONGEST_RUN:
            raise BadText(row)
        found.append(world)
    check_rest(lines, rest)
    return found


def read_notes(scheme, many, text):
    """Return the notes of a text, a dict."""
    check_scheme(scheme)
    check_number(many)
    lines, rest = lines_of(text)
    steps = {str(step): step for step in range(many)}
    found, before = {}, -1
    for row, line in enumerate(lines):
        word, _, told = line.partition(": ")
        step, pairs = steps.get(word), pairs_in(scheme, told)
        if step is None or step <= before or pairs is None:
            raise BadText(row)
        found[step] = pairs
        before = step
    check_rest(lines, rest)
    return found


def text_of(lines):
    """Return the text of these lines."""
    return "".join([line + "\n" for line in lines])


def code_line(head, code):
    """Return the line of a thread or a handler."""
    if len(code) == 0:
        return head
    return head + " " + "; ".join([instruction_words(instruction) for instruction in code])


def instruction_words(instruction):
    """Return the word and the number of an instruction, or the word alone if its number is always 0."""
    word, number = instruction
    return word if is_alone(word) else f"{word} {number}"


def is_alone(word):
    """Return whether this is an instruction word whose number is always 0."""
    return GREATEST.get(word) == 0


def world_line(world):
    """Return the line of a world."""
    return "quiet" if world == QUIET else pairs_words(noted(world, ALL_KINDS))


def pairs_words(pairs):
    """Return the words of pairs of a kind and a part."""
    return " ".join([kind if kind in WITHOUT_NUMBER else f"{kind} {part}" for kind, part in pairs])


def lines_of(text):
    """Return the list of the lines of a text, and the characters behind the last one."""
    if not isinstance(text, str):
        raise BadText(0)
    lines = text.split("\n")
    return lines[:-1], lines[-1]


def text_at(parts, index):
    """Return the text with an index, or one that is nowhere right if there is none."""
    return parts[index] if index < len(parts) else ""


def check_rest(lines, rest):
    """Raise BadText if characters follow the last line feed."""
    if rest != "":
        raise BadText(len(lines))


def threads_at_top(lines):
    """Return the tuple of the threads, at most three, with which a text begins."""
    found = []
    for line in lines[:3]:
        thread = code_in(line, "thread", 1, 5)
        if thread is None:
            break
        found.append(thread)
    return tuple(found)


def code_in(line, head, least, most):
    """Return the instructions of a line with this head, None if it is not such a line."""
    word, blank, told = line.partition(" ")
    if word != head:
        return None
    parts = told.split("; ") if blank != "" else []
    code = tuple([instruction_in(part) for part in parts])
    return code if is_code(code, least, most) else None


def instruction_in(text):
    """Return a pair of a word and a number, None in place of a number that is wrong or missing."""
    if is_alone(text):
        return text, 0
    word, _, digit = text.partition(" ")
    number = None if is_alone(word) else NUMBERS.get(digit)
    return word, number


def kinds_in(line):
    """Return the set of kinds of a line, None if it is not a line of kinds."""
    head, *kinds = line.split(" ")
    return tuple(kinds) if head == "kinds" and is_kinds_of(ALL_KINDS, tuple(kinds)) else None


def world_in(scheme, line):
    """Return the world of a line, None if it is not the line of a world of the scheme."""
    if line == "quiet":
        return QUIET
    pairs = pairs_in(scheme, line)
    return None if pairs is None else noted_world(pairs)


def pairs_in(scheme, text):
    """Return the pairs of a kind and a part in a text, None if these are not noted of one step."""
    words = text.split(" ")
    pairs = []
    at = 0
    while at < len(words):
        kind = words[at]
        if kind in WITHOUT_NUMBER:
            pairs.append((kind, True))
            at += 1
        else:
            pairs.append((kind, LOUD_NUMBERS.get(text_at(words, at + 1))))
            at += 2
    return tuple(pairs) if are_pairs(scheme, tuple(pairs)) else None
