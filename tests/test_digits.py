"""Tests of samerun.digits: [17], and what [1] says of it."""

import random
import unittest

from samerun.digits import decode, encode
from samerun.errors import BadDigits, BadNotes, BadNumber, BadScheme
from samerun.playing import notes
from samerun.schemes import ALL_KINDS, QUIET, Scheme
from tests.forms import digits_read, groups, pairs_of
from tests.samples import ODD, Sly, scheme_of, some_scheme, some_world
from tests.search import worlds_of

FULL = scheme_of("show")
SHORT = scheme_of("show", kinds=("rings", "ticks", "results"))
NUMBERS = [None, "", "1", [], {}, (), (1,), True, False, Sly(), 10 ** 5000, -(10 ** 5000), -1, 201, object(), int]
SIGNS = ["0", "1", "2", "3", "9", "00", "001100000", " ", "-", "\u0661", "\u00b2"]


def closed(digits):
    """Return digits with the last digit that is right behind them."""
    total = 0
    for place in range(1, len(digits) + 1):
        total += place * int(digits[place - 1])
    return digits + str(total % 10)


class Encoding(unittest.TestCase):
    def test_the_document_example(self):
        scheme = scheme_of("time; show", kinds=("rings", "ticks", "results"))
        self.assertEqual(encode(scheme, 20, {17: (("ticks", True), ("results", 2))}), "0170010205")
        self.assertEqual(decode(scheme, 20, "0031000003"), {3: (("rings", True),)})
        self.assertEqual(decode(scheme, 20, "0"), {})

    def test_no_notes(self):
        for many in (0, 1, 200):
            self.assertEqual([encode(FULL, many, {}), decode(FULL, many, "0")], ["0", {}])

    def test_steps(self):
        for step, digits in [(0, "000"), (1, "001"), (9, "009"), (10, "010"), (99, "099"), (100, "100"), (199, "199")]:
            found = encode(FULL, 200, {step: (("rings", True),)})
            self.assertEqual(found, closed(digits + "100000"))
            self.assertEqual(decode(FULL, 200, found), {step: (("rings", True),)})

    def test_each_kind(self):
        expected = {"rings": {True: "100000"}, "alarms": {True: "010000"}, "ticks": {True: "001000"},
                    "words": {1: "000100", 2: "000200"}, "results": {1: "000010", 2: "000020"},
                    "firsts": {1: "000001", 2: "000002"}}
        for kind, parts in expected.items():
            for part, digits in parts.items():
                found = encode(FULL, 20, {17: ((kind, part),)})
                self.assertEqual(found, closed("017" + digits))
                self.assertEqual(repr(decode(FULL, 20, found)), repr({17: ((kind, part),)}))

    def test_all_groups(self):
        known = groups(FULL, 3)
        self.assertEqual(len(known), 3 * 215)
        for group, (step, pairs) in known.items():
            self.assertEqual(encode(FULL, 3, {step: pairs}), closed(group))
            self.assertEqual(repr(decode(FULL, 3, closed(group))), repr({step: pairs}))

    def test_the_last_digit(self):
        # 2 * 1 + 3 * 7 + 6 * 1 + 8 * 2 is 45, and in the next group the places go on: 11 * 1 + 12 * 8 + 18 * 2 is 143.
        both = {17: (("ticks", True), ("results", 2)), 18: (("firsts", 2),)}
        self.assertEqual(encode(FULL, 20, both), "017001020" + "018000002" + "8")
        self.assertEqual(encode(FULL, 20, {0: (("firsts", 1),)}), "000000001" + "9")

    def test_many_steps(self):
        source = random.Random(171)
        for _ in range(100):
            scheme = some_scheme(source)
            many = source.choice([0, 1, 12, 200])
            worlds = [some_world(source, scheme.kinds) for _ in range(many)]
            noted = notes(scheme, worlds, scheme.kinds)
            order = list(noted)
            source.shuffle(order)
            expected = ""
            for step in sorted(noted):
                expected += str(step).zfill(3) + "".join(str(int(part or 0)) for part in worlds[step])
            for given in (noted, {step: noted[step] for step in order}):
                found = encode(scheme, many, given)
                self.assertEqual(found, closed(expected))
                self.assertEqual(repr(decode(scheme, many, found)), repr(noted))

    def test_each_world_of_a_scheme_with_few_kinds(self):
        for each in worlds_of(SHORT):
            given = {5: pairs_of(each)} if each != QUIET else {}
            self.assertEqual(repr(decode(SHORT, 6, encode(SHORT, 6, given))), repr(given))

    def test_the_dict_is_new_and_notes_stay(self):
        given = {4: (("ticks", True),), 0: (("results", 2),)}
        text = encode(SHORT, 5, given)
        self.assertEqual(list(given.items()), [(4, (("ticks", True),)), (0, (("results", 2),))])
        decode(SHORT, 5, text).clear()
        self.assertEqual(list(decode(SHORT, 5, text).items()), [(0, (("results", 2),)), (4, (("ticks", True),))])


class Decoding(unittest.TestCase):
    def assert_wrong(self, offset, text, scheme=FULL, many=200):
        try:
            found = decode(scheme, many, text)
        except BadDigits as error:
            self.assertEqual(repr(error.offset), repr(offset), text)
        else:
            self.fail(f"{text!r} is read as {found!r}")

    def test_what_is_no_string(self):
        for value in [*[each for each in ODD if not isinstance(each, str)], 0, b"0", ["0"], ("0",), [0]]:
            self.assert_wrong(None, value)

    def test_lengths(self):
        for length in range(0, 40):
            text = "0" * length
            if length == 1:
                self.assertEqual(decode(FULL, 200, text), {})
            else:
                self.assert_wrong(0 if length % 9 == 1 else None, text)
        right = closed("003100000")
        for text in [right[:-1], right + "0", right[1:], "0" + right, right + right, right + "\n", " " + right]:
            self.assert_wrong(None, text)

    def test_other_signs(self):
        right = closed("003100000")
        for sign in " a-+._\n\t\x00\u0661\u00b2\uff11\u0967\u2460":
            for at in range(len(right)):
                self.assert_wrong(None, right[:at] + sign + right[at + 1:])
            self.assert_wrong(None, sign)
        # The sign comes first: a wrong group does not count then.
        self.assert_wrong(None, "999999999" + "\u0661")
        self.assert_wrong(None, "00310000x" + "000000000" + "0")

    def test_steps_that_are_too_great(self):
        for many in (0, 1, 3, 100, 200):
            for step in [0, 1, 2, 3, 99, 100, 101, 199, 200, 999]:
                text = closed(str(step).zfill(3) + "100000")
                if step < many:
                    self.assertEqual(decode(FULL, many, text), {step: (("rings", True),)})
                else:
                    self.assert_wrong(0, text, many=many)

    def test_steps_that_do_not_ascend(self):
        self.assert_wrong(1, closed("003100000" + "003100000"))
        self.assert_wrong(1, closed("003100000" + "003001000"))
        self.assert_wrong(1, closed("003100000" + "002100000"))
        self.assert_wrong(2, closed("003100000" + "010100000" + "009100000"))
        self.assert_wrong(1, closed("000100000" + "000100000"))
        found = decode(FULL, 200, closed("003100000" + "004100000" + "199100000"))
        self.assertEqual(list(found), [3, 4, 199])

    def test_a_group_without_notes(self):
        self.assert_wrong(0, closed("003000000"))
        self.assert_wrong(1, closed("003100000" + "004000000"))
        self.assert_wrong(0, "000000000" + "0")

    def test_kinds_that_cannot_happen(self):
        for digits in ["010000", "000100", "000001", "110000", "001201", "000012"]:
            self.assert_wrong(0, closed("003" + digits), SHORT)
            self.assert_wrong(1, closed("002100000" + "003" + digits), SHORT)
            self.assertEqual(list(decode(FULL, 200, closed("003" + digits))), [3])

    def test_digits_beyond_their_kind(self):
        for place, greatest in enumerate([1, 1, 1, 2, 2, 2]):
            for digit in range(10):
                digits = "0" * place + str(digit) + "0" * (5 - place)
                text = closed("003" + digits)
                if 0 < digit <= greatest:
                    part = True if greatest == 1 else digit
                    self.assertEqual(repr(decode(FULL, 200, text)), repr({3: ((ALL_KINDS[place], part),)}))
                else:
                    self.assert_wrong(0, text)
                    self.assert_wrong(1, closed("002111222" + "003" + digits))

    def test_a_wrong_last_digit(self):
        for body in ["", "003100000", "003100000" + "004000020"]:
            right = closed(body)
            for digit in "0123456789":
                if digit == right[-1]:
                    self.assertEqual(len(decode(FULL, 200, right)), len(body) // 9)
                else:
                    self.assert_wrong(len(body) // 9, body + digit)

    def test_the_first_wrong_group(self):
        self.assert_wrong(0, "999999999" + "999999999" + "9")
        self.assert_wrong(1, "003100000" + "004300000" + "005300000" + "9")
        # A wrong last digit comes behind all groups.
        self.assert_wrong(1, "003100000" + "004000000" + "9")

    def test_against_all_groups(self):
        source = random.Random(172)
        read = 0
        for scheme in (FULL, SHORT):
            for many in (4, 20, 200):
                known = groups(scheme, many)
                for _ in range(600):
                    steps = sorted(source.sample(range(many), source.randint(0, 4)))
                    parts = {step: pairs_of(some_world(source, scheme.kinds)) for step in steps}
                    text = encode(scheme, many, {step: pairs for step, pairs in parts.items() if pairs})
                    at = source.randint(0, len(text))
                    text = text[:at] + source.choice(SIGNS) + text[at + source.randint(0, 2):]
                    if source.random() < 0.5 and len(text) % 9 == 1 and text.isascii() and text.isdigit():
                        text = closed(text[:-1])
                    found, wrong = digits_read(known, text)
                    if wrong is None:
                        self.assertEqual(repr(decode(scheme, many, text)), repr(found))
                        read += 1
                    else:
                        self.assert_wrong(wrong[0], text, scheme, many)
        self.assertGreater(read, 100)


class Refused(unittest.TestCase):
    def test_the_order_of_the_errors(self):
        for value in [*ODD, Scheme]:
            for call in (encode, decode):
                with self.assertRaises(BadScheme) as caught:
                    call(value, None, None)
                self.assertIsNone(caught.exception.part)
        for many in NUMBERS:
            for call in (encode, decode):
                with self.assertRaises(BadNumber):
                    call(SHORT, many, None)
        for given in [None, [], "", "0", {5: (("ticks", True),)}, {0: ()}, {0: (("alarms", True),)},
                      {True: (("ticks", True),)}, {0: (("results", 1), ("rings", True))}, {0: (("ticks", 1),)},
                      {"0": (("ticks", True),)}, {0: [("ticks", True)]}, {0: (("results", True),)}]:
            with self.assertRaises(BadNotes):
                encode(SHORT, 5, given)
        self.assertEqual(encode(SHORT, 5, {4: (("ticks", True),)}), closed("004001000"))


if __name__ == "__main__":
    unittest.main()
