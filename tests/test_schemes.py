"""Tests of samerun.schemes: [1], [2] and [4]."""

import itertools
import unittest

from samerun.errors import BadScheme
from samerun.schemes import ALL_KINDS, QUIET, Scheme, is_world
from tests.samples import GREATEST, ODD, Sly, world

SHOW = ("show", 0)


def part_of(threads, **more):
    """Return the part of the BadScheme that a Scheme raises, or `made` if it raises none."""
    try:
        Scheme(threads, **more)
    except BadScheme as error:
        return error.part
    return "made"


class Programs(unittest.TestCase):
    def assert_instruction(self, instruction, expected):
        self.assertEqual(part_of(((instruction,),)), "made" if expected else "THREADS", instruction)
        self.assertEqual(part_of(((SHOW,),), handler=(instruction,)), "made" if expected else "HANDLER", instruction)

    def test_numbers_of_each_word(self):
        for word, greatest in GREATEST.items():
            for number in range(-1, 5):
                self.assert_instruction((word, number), 0 <= number <= greatest)
            for number in [10 ** 5000, -(10 ** 5000), True, False, None, "0", (), [], Sly()]:
                self.assert_instruction((word, number), False)

    def test_jump_depends_on_its_own_code(self):
        for many in range(1, 6):
            for place in range(-1, many + 2):
                thread = (SHOW,) * (many - 1) + (("jump", place),)
                expected = 0 <= place < many
                self.assertEqual(part_of((thread,)), "made" if expected else "THREADS")
                self.assertEqual(part_of(((SHOW,) * 5, thread)), "made" if expected else "THREADS")
                if many <= 3:
                    found = part_of(((SHOW,) * 5,), handler=thread)
                    self.assertEqual(found, "made" if expected else "HANDLER")

    def test_jump_has_no_booleans(self):
        self.assertEqual(part_of(((SHOW, ("jump", True)),)), "THREADS")
        self.assertEqual(part_of(((SHOW, ("jump", 1)),)), "made")

    def test_words_that_are_none(self):
        for word in ["", "Set", "set ", "nop", "rings", b"set", None, 0, ("set",), ["set"], {}, Sly(), Ellipsis]:
            self.assert_instruction((word, 0), False)

    def test_instructions_are_pairs(self):
        for value in [("show",), ("show", 0, 0), ["show", 0], "sh", {"show": 0, "set": 0}, None, 0, (), object()]:
            self.assert_instruction(value, False)

    def test_numbers_of_threads(self):
        for many in range(6):
            found = part_of(((SHOW,),) * many)
            self.assertEqual(found, "made" if 1 <= many <= 3 else "THREADS", many)

    def test_numbers_of_instructions(self):
        for many in range(8):
            thread = (SHOW,) * many
            expected = "made" if 1 <= many <= 5 else "THREADS"
            self.assertEqual(part_of((thread,)), expected, many)
            self.assertEqual(part_of(((SHOW,), thread, (SHOW,))), expected, many)
            handled = part_of(((SHOW,),), handler=thread)
            self.assertEqual(handled, "made" if many <= 3 else "HANDLER", many)

    def test_sequences_are_tuples(self):
        self.assertEqual(part_of([(SHOW,)]), "THREADS")
        self.assertEqual(part_of(([SHOW],)), "THREADS")
        self.assertEqual(part_of(((SHOW,),), handler=[SHOW]), "HANDLER")
        self.assertEqual(part_of(((SHOW,),), kinds=["rings"]), "KINDS")
        self.assertEqual(part_of({(SHOW,): 1}), "THREADS")

    def test_odd_values(self):
        for value in ODD:
            self.assertEqual(part_of(value), "THREADS")
            self.assertEqual(part_of((value,)), "THREADS")
            self.assertEqual(part_of(((SHOW,), value)), "THREADS")
            self.assertEqual(part_of(((value,),)), "THREADS")
            expected = "made" if value == () and isinstance(value, tuple) else "HANDLER"
            self.assertEqual(part_of(((SHOW,),), handler=value), expected)
            self.assertEqual(part_of(((SHOW,),), handler=(value,)), "HANDLER")

    def test_the_first_wrong_part_is_named(self):
        good = {"threads": ((SHOW,),), "handler": (SHOW,), "kinds": ("rings",)}
        for wrong in itertools.product([False, True], repeat=3):
            named = [key for key, bad in zip(good, wrong) if bad]
            given = {key: None if key in named else value for key, value in good.items()}
            self.assertEqual(part_of(**given), named[0].upper() if named else "made")


class Kinds(unittest.TestCase):
    def test_all_kinds(self):
        self.assertEqual(ALL_KINDS, ("rings", "alarms", "ticks", "words", "results", "firsts"))

    def test_each_subset_in_order_is_a_set(self):
        for many in range(7):
            for kinds in itertools.combinations(ALL_KINDS, many):
                self.assertEqual(Scheme(((SHOW,),), kinds=kinds).kinds, kinds)

    def test_order_and_repetition(self):
        for first, second in itertools.combinations(ALL_KINDS, 2):
            self.assertEqual(part_of(((SHOW,),), kinds=(second, first)), "KINDS")
        for kind in ALL_KINDS:
            self.assertEqual(part_of(((SHOW,),), kinds=(kind, kind)), "KINDS")
        self.assertEqual(part_of(((SHOW,),), kinds=ALL_KINDS + ("firsts",)), "KINDS")
        self.assertEqual(part_of(((SHOW,),), kinds=("rings", "ticks", "alarms")), "KINDS")

    def test_odd_values(self):
        for value in ODD:
            expected = "made" if value == () and isinstance(value, tuple) else "KINDS"
            self.assertEqual(part_of(((SHOW,),), kinds=value), expected)
            expected = "made" if value == "rings" and isinstance(value, str) else "KINDS"
            self.assertEqual(part_of(((SHOW,),), kinds=(value,)), expected)
        for kinds in [("",), ("Rings",), ("ring",), ("rings", None), ("rings", Sly()), ("rings", ["alarms"])]:
            self.assertEqual(part_of(((SHOW,),), kinds=kinds), "KINDS")


class Schemes(unittest.TestCase):
    def test_defaults_and_properties(self):
        scheme = Scheme(((("set", 2), SHOW), (SHOW,)))
        self.assertEqual(scheme.threads, ((("set", 2), ("show", 0)), (("show", 0),)))
        self.assertEqual(scheme.handler, ())
        self.assertEqual(scheme.kinds, ALL_KINDS)
        scheme = Scheme(((SHOW,),), handler=(("set", 1),), kinds=("ticks",))
        self.assertEqual((scheme.handler, scheme.kinds), ((("set", 1),), ("ticks",)))

    def test_keyword_only(self):
        with self.assertRaises(TypeError):
            Scheme(((SHOW,),), ())

    def test_a_scheme_does_not_change(self):
        scheme = Scheme(((SHOW,),))
        for name in ["threads", "handler", "kinds"]:
            self.assertIsInstance(getattr(Scheme, name), property)
            with self.assertRaises(AttributeError):
                setattr(scheme, name, ())

    def test_equality(self):
        def make(number, handler, kinds):
            return Scheme(((("set", number),),), handler=handler, kinds=kinds)
        one = make(1, (SHOW,), ("rings",))
        self.assertTrue(one == make(1, (SHOW,), ("rings",)))
        self.assertFalse(one != make(1, (SHOW,), ("rings",)))
        self.assertFalse(one == make(2, (SHOW,), ("rings",)))
        self.assertFalse(one == make(1, (), ("rings",)))
        self.assertFalse(one == make(1, (SHOW,), ("ticks",)))


class Worlds(unittest.TestCase):
    def setUp(self):
        self.full = Scheme(((SHOW,),))

    def test_quiet(self):
        self.assertEqual(repr(QUIET), "(False, False, False, None, 0, 0)")
        self.assertIs(is_world(self.full, QUIET), True)

    def test_all_worlds_of_all_kinds(self):
        flags, numbers = [False, True], [0, 1, 2]
        for value in itertools.product(flags, flags, flags, [None, 1, 2], numbers, numbers):
            self.assertIs(is_world(self.full, value), True, value)

    def test_each_part_of_another_value(self):
        right = [[False, True]] * 3 + [[None, 1, 2]] + [[0, 1, 2]] * 2
        for at, values in enumerate(right):
            for odd in [*ODD, 0, 1, 2]:
                value = QUIET[:at] + (odd,) + QUIET[at + 1:]
                expected = any(type(odd) is type(each) and odd == each for each in values)
                self.assertIs(is_world(self.full, value), expected, (at, odd if at else None))

    def test_other_lengths_and_kinds_of_values(self):
        for value in [*ODD, QUIET[:5], QUIET + (0,), list(QUIET), dict(enumerate(QUIET)), "000000", (0,) * 6]:
            self.assertIs(is_world(self.full, value), False)

    def test_what_cannot_happen_is_quiet(self):
        loud = world(rings=True, alarms=True, ticks=True, word=1, result=2, first=1)
        for many in range(7):
            for kinds in itertools.combinations(ALL_KINDS, many):
                scheme = Scheme(((SHOW,),), kinds=kinds)
                self.assertIs(is_world(scheme, QUIET), True)
                for at, kind in enumerate(ALL_KINDS):
                    value = QUIET[:at] + (loud[at],) + QUIET[at + 1:]
                    self.assertIs(is_world(scheme, value), kind in kinds)
                self.assertIs(is_world(scheme, loud), kinds == ALL_KINDS)

    def test_a_scheme_is_asked_for_first(self):
        for value in [*ODD, QUIET, ((SHOW,),)]:
            for other in [QUIET, None]:
                with self.assertRaises(BadScheme) as caught:
                    is_world(value, other)
                self.assertIsNone(caught.exception.part)


if __name__ == "__main__":
    unittest.main()
