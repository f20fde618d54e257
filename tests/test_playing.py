"""Tests of samerun.playing: [6], [7] and [8], and what [1] says of them."""

import itertools
import random
import unittest

from samerun.errors import BadKinds, BadScheme, BadWorlds
from samerun.playing import Parts, Same, compare, notes, played, shown, size
from samerun.schemes import ALL_KINDS, QUIET, Scheme
from tests.reference import Reference
from tests.samples import ODD, Sly, scheme_of, some_scheme, some_world, world

# What each of the calls of this file is called with, behind the scheme and the worlds.
WITH_KINDS = [notes, played, compare, Same().shows, Parts(0, None, 0).shows]


def subsets(kinds):
    return [each for many in range(len(kinds) + 1) for each in itertools.combinations(kinds, many)]


class Shown(unittest.TestCase):
    def test_lengths(self):
        scheme = scheme_of("set 2; show")
        self.assertEqual(shown(scheme, []), [])
        self.assertEqual(shown(scheme, ()), [])
        for many in (1, 2, 3, 199, 200):
            self.assertEqual(shown(scheme, [QUIET] * many), ([None, 2] * 100)[:many])
            self.assertEqual(shown(scheme, (QUIET,) * many), ([None, 2] * 100)[:many])

    def test_the_list_is_new_and_the_worlds_stay(self):
        scheme, worlds = scheme_of("show"), [QUIET, world(ticks=True)]
        first = shown(scheme, worlds)
        self.assertIsInstance(first, list)
        first.append("spoilt")
        self.assertEqual(shown(scheme, worlds), [0, 0])
        self.assertEqual(worlds, [QUIET, world(ticks=True)])

    def test_against_the_reference(self):
        source = random.Random(2)
        for _ in range(200):
            scheme = some_scheme(source)
            worlds = [some_world(source, scheme.kinds) for _ in range(source.randint(0, 30))]
            reference = Reference(scheme.threads, scheme.handler)
            self.assertEqual(repr(shown(scheme, worlds)), repr([reference.step(each) for each in worlds]))


class RefusedCalls(unittest.TestCase):
    def calls(self, scheme, worlds):
        yield lambda: shown(scheme, worlds)
        for call in WITH_KINDS:
            yield lambda: call(scheme, worlds, ())

    def test_not_a_scheme(self):
        for value in [*ODD, Scheme]:
            for worlds in [[], None]:
                for call in self.calls(value, worlds):
                    with self.assertRaises(BadScheme) as caught:
                        call()
                    self.assertIsNone(caught.exception.part)
            for call in WITH_KINDS:
                with self.assertRaises(BadScheme):
                    call(value, None, None)

    def assert_bad_worlds(self, worlds, index, kinds=ALL_KINDS):
        scheme = scheme_of("show", kinds=kinds)
        for call in self.calls(scheme, worlds):
            with self.assertRaises(BadWorlds) as caught:
                call()
            self.assertEqual(repr(caught.exception.index), repr(index))
        for call in WITH_KINDS:
            with self.assertRaises(BadWorlds):
                call(scheme, worlds, None)

    def test_not_a_list_or_tuple(self):
        for value in [None, "", "rings", {}, {0: QUIET}, set(), object(), Sly(), True, 0, -1, 10 ** 5000, iter([])]:
            self.assert_bad_worlds(value, None)

    def test_too_many_worlds(self):
        self.assert_bad_worlds([QUIET] * 201, None)
        self.assert_bad_worlds((QUIET,) * 201, None)
        self.assert_bad_worlds([None] * 201, None)
        self.assert_bad_worlds([QUIET] * 5000, None)

    def test_the_first_wrong_world(self):
        for odd in [*ODD, list(QUIET), QUIET[:5], world(word=True), world(result=False)]:
            self.assert_bad_worlds([odd], 0)
            self.assert_bad_worlds((QUIET, odd, QUIET, odd), 1)
        self.assert_bad_worlds([QUIET] * 199 + [None], 199)
        self.assert_bad_worlds(QUIET, 0)

    def test_a_world_of_another_scheme(self):
        self.assert_bad_worlds([world(ticks=True), world(word=1)], 1, kinds=("ticks",))
        self.assert_bad_worlds([world(ticks=True), world(word=1)], 0, kinds=("words",))

    def test_not_a_set_of_kinds_that_can_happen(self):
        scheme = scheme_of("show", kinds=("rings", "ticks", "results"))
        wrong = [("alarms",), ("rings", "alarms"), ("ticks", "rings"), ("rings", "rings"), ALL_KINDS, ["rings"],
                 ("rings", None), ("rings", ["ticks"]), (Sly(),), "rings", ("rings", 1), ("",)]
        for kinds in [*[each for each in ODD if each != () or not isinstance(each, tuple)], *wrong]:
            for call in WITH_KINDS:
                with self.assertRaises(BadKinds):
                    call(scheme, [QUIET], kinds)


class Notes(unittest.TestCase):
    def test_the_order_of_steps_and_kinds(self):
        scheme = scheme_of("show")
        worlds = [world(rings=True, alarms=True, ticks=True, word=2, result=1, first=2), QUIET, world(word=1)]
        noted = notes(scheme, worlds, ALL_KINDS)
        pairs = (("rings", True), ("alarms", True), ("ticks", True), ("words", 2), ("results", 1), ("firsts", 2))
        self.assertEqual(repr(noted), repr({0: pairs, 2: (("words", 1),)}))
        self.assertEqual(list(noted), [0, 2])
        self.assertEqual(size(noted), 7)

    def test_each_set_of_kinds(self):
        scheme = scheme_of("show")
        full = world(rings=True, alarms=True, ticks=True, word=2, result=1, first=2)
        for kinds in subsets(ALL_KINDS):
            pairs = tuple((kind, part) for kind, part in zip(ALL_KINDS, full) if kind in kinds)
            expected = {1: pairs} if pairs else {}
            self.assertEqual(repr(notes(scheme, [QUIET, full], kinds)), repr(expected))
            self.assertEqual(size(expected), len(kinds))

    def test_the_empty_set_and_the_empty_run(self):
        scheme = scheme_of("show")
        self.assertEqual(notes(scheme, [world(ticks=True)], ()), {})
        self.assertEqual(notes(scheme, [], ALL_KINDS), {})
        self.assertEqual(size({}), 0)

    def test_what_no_instruction_asks_for_is_noted(self):
        scheme = scheme_of("show")
        noted = notes(scheme, [world(result=2), world(first=1)], ("results", "firsts"))
        self.assertEqual(noted, {0: (("results", 2),), 1: (("firsts", 1),)})

    def test_a_tuple_of_worlds(self):
        scheme = scheme_of("time; show")
        worlds = (world(ticks=True), QUIET)
        self.assertEqual(notes(scheme, worlds, ("ticks",)), {0: (("ticks", True),)})
        self.assertEqual(played(scheme, worlds, ("ticks",)), [None, 1])
        self.assertEqual(compare(scheme, worlds, ("ticks",)), Same())

    def test_new_dicts_and_lists(self):
        scheme, worlds = scheme_of("time; show"), [world(ticks=True), QUIET]
        noted = notes(scheme, worlds, ("ticks",))
        noted[5] = ()
        self.assertEqual(notes(scheme, worlds, ("ticks",)), {0: (("ticks", True),)})
        told = played(scheme, worlds, ("ticks",))
        self.assertIsInstance(told, list)
        told.append(0)
        self.assertEqual(played(scheme, worlds, ("ticks",)), [None, 1])
        self.assertEqual(worlds, [world(ticks=True), QUIET])

    def test_size_leaves_its_argument_as_it_is(self):
        noted = {0: (("ticks", True), ("words", 1)), 3: (("rings", True),)}
        self.assertEqual(size(noted), 3)
        self.assertEqual(noted, {0: (("ticks", True), ("words", 1)), 3: (("rings", True),)})

    def test_the_document_example(self):
        scheme = scheme_of("call; show", "set 2; show", kinds=("rings", "results"))
        worlds = [world(result=2), world(rings=True, result=1), QUIET, world(rings=True)]
        noted = notes(scheme, worlds, ("rings", "results"))
        expected = {0: (("results", 2),), 1: (("rings", True), ("results", 1)), 3: (("rings", True),)}
        self.assertEqual((repr(noted), size(noted)), (repr(expected), 4))
        self.assertEqual(shown(scheme, worlds), [None, None, 2, 2])
        self.assertEqual(played(scheme, worlds, ("results",)), [None, 2, None, 0])


class Played(unittest.TestCase):
    def test_with_all_kinds_it_is_the_run(self):
        source = random.Random(3)
        for _ in range(100):
            scheme = some_scheme(source)
            worlds = [some_world(source, scheme.kinds) for _ in range(source.randint(0, 30))]
            self.assertEqual(played(scheme, worlds, scheme.kinds), shown(scheme, worlds))
            self.assertEqual(compare(scheme, worlds, scheme.kinds), Same())

    def test_as_many_steps_as_the_run_has(self):
        scheme = scheme_of("show")
        self.assertEqual(played(scheme, [QUIET] * 200, ()), [0] * 200)
        self.assertEqual(played(scheme, [], ()), [])

    def test_each_kind_reaches_the_player(self):
        cases = [
            ("rings", scheme_of("show", "set 2; show"), [world(rings=True), QUIET], [None, 2], [0, 0]),
            ("alarms", scheme_of("show", handler="set 2; show"), [world(alarms=True), QUIET], [None, 2], [0, 0]),
            ("ticks", scheme_of("time; show"), [world(ticks=True), QUIET], [None, 1], [None, 0]),
            ("words", scheme_of("take; show"), [world(word=2), QUIET], [None, 2], [None, 0]),
            ("results", scheme_of("call; show"), [world(result=2), QUIET], [None, 2], [None, 0]),
            ("firsts", scheme_of("first 1; load 1; show"), [world(first=2), QUIET, QUIET],
             [None, None, 2], [None, None, 0]),
        ]
        for kind, scheme, worlds, there, here in cases:
            others = tuple(each for each in ALL_KINDS if each != kind)
            self.assertEqual(shown(scheme, worlds), there, kind)
            self.assertEqual(played(scheme, worlds, (kind,)), there, kind)
            self.assertEqual(played(scheme, worlds, others), here, kind)

    def test_against_the_reference(self):
        source = random.Random(4)
        for _ in range(300):
            scheme = some_scheme(source)
            worlds = [some_world(source, scheme.kinds) for _ in range(source.randint(0, 25))]
            kinds = source.choice(subsets(scheme.kinds))
            quieted = [tuple(part if kind in kinds else quiet for kind, part, quiet in zip(ALL_KINDS, each, QUIET))
                       for each in worlds]
            there, here = [self.replay(scheme, each) for each in (worlds, quieted)]
            self.assertEqual(repr(played(scheme, worlds, kinds)), repr(here))
            apart = [at for at in range(len(worlds)) if there[at] != here[at]]
            found = compare(scheme, worlds, kinds)
            if apart:
                self.assertIsInstance(found, Parts)
                self.assertEqual((found.index, found.there, found.here), (apart[0], there[apart[0]], here[apart[0]]))
            else:
                self.assertIsInstance(found, Same)
            self.assertIs(found.shows(scheme, worlds, kinds), True)
            self.assertIs(Same().shows(scheme, worlds, kinds), not apart)

    def replay(self, scheme, worlds):
        reference = Reference(scheme.threads, scheme.handler)
        return [reference.step(each) for each in worlds]


class Compared(unittest.TestCase):
    def setUp(self):
        self.scheme = scheme_of("call; show", "set 2; show", kinds=("rings", "results"))
        self.worlds = [world(result=2), world(rings=True, result=1), QUIET, world(rings=True)]

    def parts(self):
        return compare(self.scheme, self.worlds, ("results",))

    def shows(self, found, kinds=("results",)):
        return found.shows(self.scheme, self.worlds, kinds)

    def test_the_first_step_that_parts(self):
        found = self.parts()
        self.assertEqual((found.index, found.there, found.here), (1, None, 2))
        found = compare(self.scheme, self.worlds[:1], ("results",))
        self.assertIsInstance(found, Same)
        found = compare(scheme_of("time; show"), [QUIET, QUIET, world(ticks=True), QUIET], ())
        self.assertEqual((found.index, found.there, found.here), (3, 1, 0))

    def test_a_number_and_none_part(self):
        found = compare(scheme_of("show", "set 0"), [world(rings=True)], ())
        self.assertEqual((found.index, found.there, found.here), (0, None, 0))
        found = compare(scheme_of("set 0", "show"), [world(rings=True)], ())
        self.assertEqual((found.index, found.there, found.here), (0, 0, None))

    def test_shows_of_same(self):
        self.assertIs(self.shows(Same(), ("rings", "results")), True)
        self.assertIs(self.shows(Same(), ("results",)), False)

    def test_shows_of_parts(self):
        self.assertIs(self.shows(self.parts()), True)
        self.assertIs(self.shows(Parts(1, None, 2)), True)
        self.assertIs(self.shows(self.parts(), ("rings", "results")), False)
        self.assertIs(self.shows(Parts(3, 2, 0)), False, "not the first step that parts")

    def test_shows_with_changed_attributes(self):
        changes = {"index": [0, 2, 3, None, True, "1", [1], (1,), -1, 10 ** 5000], "there": [0, 1, 2, False, "", ()],
                   "here": [0, 1, 3, None, True, "2", [], -1]}
        for name, values in changes.items():
            for value in values:
                found = self.parts()
                setattr(found, name, value)
                self.assertIs(self.shows(found), False, (name, str(type(value))))
        found = Parts(0, 0, 0)
        found.index, found.there, found.here = 1, None, 2
        self.assertIs(self.shows(found), True)

    def test_a_boolean_is_no_number_in_shows(self):
        scheme, worlds = scheme_of("time; show"), [world(ticks=True), QUIET]
        self.assertIs(Parts(1, 1, 0).shows(scheme, worlds, ()), True)
        self.assertIs(Parts(True, 1, 0).shows(scheme, worlds, ()), False)
        self.assertIs(Parts(1, True, 0).shows(scheme, worlds, ()), False)
        self.assertIs(Parts(1, 1, False).shows(scheme, worlds, ()), False)

    def test_equality(self):
        self.assertTrue(Same() == Same())
        self.assertFalse(Same() != Same())
        self.assertTrue(Parts(1, None, 2) == Parts(1, None, 2))
        for other in [Parts(0, None, 2), Parts(1, 0, 2), Parts(1, None, 1), Parts(1, 2, None), Parts(True, None, 2)]:
            self.assertFalse(Parts(1, None, 2) == other)
            self.assertTrue(Parts(1, None, 2) != other)
        found = Parts(1, None, 2)
        found.here = 0
        self.assertFalse(found == Parts(1, None, 2))
        self.assertTrue(found == Parts(1, None, 0))


if __name__ == "__main__":
    unittest.main()
