"""Notes as digits, written and read."""

from samerun.checks import are_pairs, check_notes, check_number
from samerun.errors import BadDigits
from samerun.playing import noted_world
from samerun.schemes import ALL_KINDS, check_scheme

DIGITS = "0123456789"
FOR_STEP = 3
FOR_GROUP = 9


def encode(scheme, many, notes):
    """Return the digits of notes of a run with so many steps."""
    check_scheme(scheme)
    check_number(many)
    check_notes(scheme, many, notes)
    digits = "".join([f"{step:03d}{pairs_digits(notes[step])}" for step in sorted(notes)])
    return digits + last_digit(digits)


def decode(scheme, many, text):
    """Return the notes of digits, a dict."""
    check_scheme(scheme)
    check_number(many)
    if not are_digits(text):
        raise BadDigits(None)
    groups = [text[at:at + FOR_GROUP] for at in range(0, len(text) - 1, FOR_GROUP)]
    found, before = {}, -1
    for offset, group in enumerate(groups):
        step, pairs = int(group[:FOR_STEP]), pairs_of(group[FOR_STEP:])
        if not before < step < many or not are_pairs(scheme, pairs):
            raise BadDigits(offset)
        found[step] = pairs
        before = step
    if text[-1] != last_digit(text[:-1]):
        raise BadDigits(len(groups))
    return found


def are_digits(text):
    """Return whether a value is a string of digits of a length that notes can have."""
    if not isinstance(text, str) or len(text) % FOR_GROUP != 1:
        return False
    return all([sign in DIGITS for sign in text])


def pairs_digits(pairs):
    """Return six digits for pairs of a kind and a part, one for each kind."""
    return "".join([str(0 if part is None else int(part)) for part in noted_world(pairs)])


def pairs_of(digits):
    """Return pairs of a kind and a part for six digits; a part is wrong if its digit is."""
    return tuple([(kind, part_of(kind, int(digit))) for kind, digit in zip(ALL_KINDS, digits) if digit != "0"])


def part_of(kind, digit):
    """Return the part of this kind that a digit tells."""
    return digit == 1 if kind in ("rings", "alarms", "ticks") else digit


def last_digit(digits):
    """Return the digit that follows these digits."""
    return str(sum([place * int(digit) for place, digit in enumerate(digits, start=1)]) % 10)
