"""All right lines of texts and all right groups of digits, listed one by one, and a reading that looks them up."""

import functools
import itertools

from samerun.schemes import ALL_KINDS, QUIET
from tests.samples import GREATEST
from tests.search import worlds_of

ALONE = [word for word, greatest in GREATEST.items() if greatest == 0 and word != "jump"]
WITH_NUMBER = [word for word, greatest in GREATEST.items() if greatest == 2]


@functools.lru_cache
def instruction_texts(places):
    """Return a dict from all texts of an instruction of a code with so many places to the instruction."""
    found = {word: (word, 0) for word in ALONE}
    found.update({f"{word} {number}": (word, number) for word in WITH_NUMBER for number in range(3)})
    found.update({f"jump {place}": ("jump", place) for place in range(places)})
    return found


@functools.lru_cache
def kinds_lines():
    """Return a dict from all lines of kinds to the kinds."""
    sets = [each for many in range(7) for each in itertools.combinations(ALL_KINDS, many)]
    return {" ".join(("kinds",) + each): each for each in sets}


def code_of(line, head, least, most):
    """Return the instructions of a line, or None."""
    parts = line.split("; ")
    if least == 0 and line == head:
        return ()
    if len(parts) > most or not line.startswith(head + " "):
        return None
    parts[0] = parts[0][len(head) + 1:]
    known = instruction_texts(len(parts))
    return tuple(known[part] for part in parts) if all(part in known for part in parts) else None


def part_text(kind, part):
    return kind if part is True else f"{kind} {part}"


def pairs_of(each):
    """Return the pairs of the parts of a world that are not quiet."""
    return tuple((kind, part) for kind, part, quiet in zip(ALL_KINDS, each, QUIET) if part != quiet)


def pairs_texts(scheme):
    """Return a dict from all texts of one or more parts of a world of a scheme to the world."""
    loud = [each for each in worlds_of(scheme) if each != QUIET]
    return {" ".join(part_text(kind, part) for kind, part in pairs_of(each)): each for each in loud}


def groups(scheme, many):
    """Return a dict from all groups of digits of a scheme to a pair of a step and the pairs."""
    found = {}
    for each in worlds_of(scheme):
        if each != QUIET:
            digits = "".join(str(int(part or 0)) for part in each)
            found.update({str(step).zfill(3) + digits: (step, pairs_of(each)) for step in range(many)})
    return found


def rows_of(text):
    """Return the lines of a text, and the characters behind the last line feed."""
    *lines, rest = text.split("\n")
    return lines, rest


def scheme_read(text):
    """Return what is read from the text of a scheme: its three parts and None, or None and the wrong row."""
    lines, rest = rows_of(text)
    threads, handler, kinds = [], None, None
    for row, line in enumerate(lines):
        thread = code_of(line, "thread", 1, 5)
        if handler is None and thread is not None and len(threads) < 3:
            threads.append(thread)
        elif handler is None and threads and code_of(line, "handler", 0, 3) is not None:
            handler = code_of(line, "handler", 0, 3)
        elif handler is not None and kinds is None and line in kinds_lines():
            kinds = kinds_lines()[line]
        else:
            return None, row
    if kinds is None or rest:
        return None, len(lines)
    return (tuple(threads), handler, kinds), None


def worlds_read(known, text):
    """Return what is read from the text of worlds: the list and None, or None and the wrong row."""
    lines, rest = rows_of(text)
    for row, line in enumerate(lines):
        if row == 200 or (line not in known and line != "quiet"):
            return None, row
    return (None, len(lines)) if rest else ([known.get(line, QUIET) for line in lines], None)


def notes_read(known, many, text):
    """Return what is read from the text of notes: the dict and None, or None and the wrong row."""
    lines, rest = rows_of(text)
    found = {}
    for row, line in enumerate(lines):
        right = [step for step in range(max(found, default=-1) + 1, many) if line.startswith(f"{step}: ")]
        told = line[len(f"{right[0]}: "):] if right else None
        if told not in known:
            return None, row
        found[right[0]] = pairs_of(known[told])
    return (None, len(lines)) if rest else (found, None)


def digits_read(known, text):
    """Return what is read from digits: the dict and None, or None and a tuple of the offset."""
    if len(text) % 9 != 1 or not all("0" <= sign <= "9" for sign in text):
        return None, (None,)
    found = {}
    for at in range(len(text) // 9):
        step, pairs = known.get(text[at * 9:at * 9 + 9], (-1, ()))
        if step <= max(found, default=-1):
            return None, (at,)
        found[step] = pairs
    total = 0
    for at in range(len(text) - 1):
        total += (at + 1) * "0123456789".index(text[at])
    return (found, None) if text[-1] == str(total)[-1] else (None, (len(text) // 9,))


def spoilt(source, text, signs):
    """Return a text that is changed at one or two places which a random source picks."""
    for _ in range(source.randint(1, 2)):
        at = source.randint(0, len(text))
        end = at + source.choice([0, 1, 1, 2])
        text = source.choice([
            text[:at] + source.choice(signs) + text[end:],
            text[:at] + text[end:],
            text[:at] + text[at:end] * 2 + text[end:],
            moved(source, text),
        ])
    return text


def moved(source, text):
    """Return a text of which a line is gone, is there twice, or stands elsewhere."""
    lines = text.split("\n")
    line = lines.pop(source.randrange(len(lines)))
    for _ in range(source.randint(0, 2)):
        lines.insert(source.randint(0, len(lines)), line)
    return "\n".join(lines)
