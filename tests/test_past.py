"""Tests of samerun.past: [14], and what [1] says of it."""

import random
import unittest

from samerun.errors import BadCell, BadNumber, BadScheme, BadStep, BadWorlds
from samerun.past import first_shown, matters, origin, writer
from samerun.playing import notes, shown
from samerun.schemes import ALL_KINDS, QUIET, Scheme
from tests.samples import ODD, Sly, scheme_of, some_scheme, some_world, telling_scheme, world
from tests.search import told_by, with_only
from tests.tracing import Traced

TICK = world(ticks=True)
RING = world(rings=True)
NUMBERS = [None, "", "1", [], {}, (), (1,), True, False, Sly(), 10 ** 5000, -(10 ** 5000), -1, object(), int]


def quiets(many):
    return [QUIET] * many


def loud(each):
    """Return the kinds of the parts of a world that are not quiet."""
    return [kind for kind, part, quiet in zip(ALL_KINDS, each, QUIET) if part != quiet]


def trace(scheme, worlds):
    """Return a second machine that has run, and the list of what its steps show, each with its origin."""
    machine = Traced(scheme.threads, scheme.handler)
    return machine, [machine.step(each) for each in worlds]


def in_order(pairs):
    return None if pairs is None else sorted(pairs, key=lambda pair: (pair[0], ALL_KINDS.index(pair[1])))


def matters_by_trial(scheme, worlds, step):
    """Return what matters for a step, from a whole run for each part that is quieted."""
    there, found = told_by(scheme, worlds), []
    for index, each in enumerate(worlds):
        for kind in loud(each):
            others = [other for other in ALL_KINDS if other != kind]
            run = [*worlds[:index], with_only(each, others), *worlds[index + 1:]]
            if repr(told_by(scheme, run)[step]) != repr(there[step]):
                found.append((index, kind))
    return found


class AgainstTheReference(unittest.TestCase):
    def assert_run(self, scheme, worlds):
        machine, told = trace(scheme, worlds)
        for given in (list(worlds), tuple(worlds)):
            for step, (_, source) in enumerate(told):
                self.assertEqual(repr(origin(scheme, given, step)), repr(in_order(source)))
            for step in range(len(worlds) + 1):
                for cell in range(3):
                    writes = [at for at in range(step) if machine.log[at] in (("save", cell), ("first", cell))]
                    self.assertEqual(repr(writer(scheme, given, step, cell)), repr(max(writes, default=None)))
            for number in range(3):
                found = [at for at, (each, _) in enumerate(told) if each == number]
                self.assertEqual(repr(first_shown(scheme, given, number)), repr(min(found, default=None)))

    def assert_matters(self, scheme, worlds):
        for step in range(len(worlds)):
            expected = matters_by_trial(scheme, worlds, step)
            self.assertEqual(repr(matters(scheme, list(worlds), step)), repr(expected))
            self.assertEqual(repr(matters(scheme, tuple(worlds), step)), repr(expected))

    def test_some_schemes(self):
        source = random.Random(141)
        for _ in range(120):
            scheme = some_scheme(source)
            self.assert_run(scheme, [some_world(source, scheme.kinds) for _ in range(source.randint(0, 25))])

    def test_schemes_that_tell_much(self):
        source = random.Random(142)
        for _ in range(120):
            scheme = telling_scheme(source, ALL_KINDS)
            self.assert_run(scheme, [some_world(source) for _ in range(source.randint(0, 25))])

    def test_programs_that_hand_numbers_on(self):
        # These bring numbers from one thread to another through cells, which random programs seldom do.
        source = random.Random(143)
        threads = ["time; add 0; save 0; show", "take; save 1; add 0; show", "load 0; add 1; add 2; save 0; show",
                   "call; add 2; save 2; show", "spilt; add 0; show", "count; add 1; show; save 1",
                   "first 2; load 2; add 2; show; save 0"]
        handlers = ["", "add 0; show; save 2", "load 2; show", "spilt; show; save 0", "call; save 1", "show"]
        for _ in range(120):
            scheme = scheme_of(*source.choices(threads, k=source.randint(1, 3)), handler=source.choice(handlers))
            worlds = [some_world(source) for _ in range(source.randint(1, 30))]
            self.assert_run(scheme, worlds)
            self.assert_matters(scheme, worlds[:12])

    def test_matters_of_some_schemes(self):
        source = random.Random(144)
        for at in range(200):
            scheme = some_scheme(source) if at % 2 else telling_scheme(source, ALL_KINDS)
            self.assert_matters(scheme, [some_world(source, scheme.kinds) for _ in range(source.randint(0, 12))])

    def test_long_runs(self):
        source = random.Random(145)
        scheme = scheme_of("time; add 0; save 0; show; jump 1", "load 0; add 1; show", "take; save 1; count; show",
                           handler="call; add 0; save 0")
        worlds = [some_world(source) for _ in range(200)]
        _, told = trace(scheme, worlds)
        for step in (0, 1, 198, 199):
            self.assertEqual(origin(scheme, worlds, step), in_order(told[step][1]))
            self.assertEqual(matters(scheme, worlds, step), matters_by_trial(scheme, worlds, step))


class Writer(unittest.TestCase):
    def test_save_and_first(self):
        scheme = scheme_of("save 1; first 1; save 0; first 2; show")
        found = [[writer(scheme, quiets(7), step, cell) for step in range(8)] for cell in range(3)]
        self.assertEqual(found[0], [None, None, None, 2, 2, 2, 2, 2])
        self.assertEqual(found[1], [None, 0, 1, 1, 1, 1, 5, 6])
        self.assertEqual(found[2], [None, None, None, None, 3, 3, 3, 3])

    def test_other_instructions_write_nothing(self):
        for word in ["set 1", "load 1", "add 1", "show", "shut", "open", "time", "take", "count", "spilt", "call",
                     "jump 0"]:
            for cell in range(3):
                self.assertIsNone(writer(scheme_of(word), quiets(5), 5, cell))

    def test_a_number_that_stays_the_same_is_written_too(self):
        self.assertEqual(writer(scheme_of("save 2; show"), quiets(4), 4, 2), 2)
        self.assertEqual(writer(scheme_of("first 2; show"), quiets(4), 4, 2), 2)

    def test_a_write_by_the_handler(self):
        scheme = scheme_of("save 0; show; show", handler="set 1; save 0")
        worlds = [QUIET, QUIET, world(alarms=True), QUIET, QUIET, QUIET]
        self.assertEqual([writer(scheme, worlds, step, 0) for step in range(7)], [None, 0, 0, 0, 3, 3, 5])

    def test_a_write_by_another_thread(self):
        scheme = scheme_of("show", "save 2; show")
        self.assertEqual(writer(scheme, [QUIET, RING, QUIET], 3, 2), 1)
        self.assertIsNone(writer(scheme, quiets(3), 3, 2))

    def test_the_step_itself_does_not_count(self):
        scheme = scheme_of("save 0")
        self.assertEqual([writer(scheme, quiets(3), step, 0) for step in range(4)], [None, 0, 1, 2])
        self.assertIsNone(writer(scheme, [], 0, 0))

    def test_the_document_example(self):
        scheme = scheme_of("take; save 1; show", "load 1; show")
        worlds = [world(word=2), QUIET, RING, QUIET]
        self.assertEqual(writer(scheme, worlds, 3, 1), 1)
        self.assertEqual(first_shown(scheme, worlds, 2), 3)
        self.assertEqual(origin(scheme, worlds, 3), [(0, "words")])
        self.assertEqual(matters(scheme, worlds, 3), [(0, "words"), (2, "rings")])
        self.assertIsNone(origin(scheme, worlds, 2))


class FirstShown(unittest.TestCase):
    def test_each_number(self):
        scheme = scheme_of("show; set 2; show; set 1; show")
        self.assertEqual([first_shown(scheme, quiets(10), number) for number in range(3)], [0, 4, 2])

    def test_never(self):
        scheme = scheme_of("set 1; show")
        self.assertEqual([first_shown(scheme, quiets(200), number) for number in range(3)], [None, 1, None])
        self.assertEqual([first_shown(scheme, [], number) for number in range(3)], [None, None, None])
        self.assertIsNone(first_shown(scheme, quiets(1), 1))
        # What shows nothing does not show 0.
        self.assertIsNone(first_shown(scheme_of("time"), quiets(9), 0))

    def test_the_world_matters(self):
        scheme = scheme_of("time; show")
        self.assertEqual([first_shown(scheme, [QUIET, TICK, TICK, QUIET], number) for number in range(3)], [1, None, 3])


class Origins(unittest.TestCase):
    def origins(self, scheme, worlds):
        return [origin(scheme, worlds, step) for step in range(len(worlds))]

    def assert_last(self, texts, worlds, expected, **more):
        found = origin(scheme_of(*texts, **more), worlds, len(worlds) - 1)
        self.assertIsInstance(found, list)
        self.assertEqual(repr(found), repr(expected))

    def test_nothing_is_shown(self):
        for word in ["set 1", "load 0", "add 0", "save 0", "first 0", "jump 0", "shut", "open", "time", "take",
                     "count", "spilt", "call"]:
            full = world(ticks=True, word=1, result=1, first=1)
            self.assertEqual(self.origins(scheme_of(word), [full, full]), [None, None])

    def test_at_the_beginning(self):
        self.assert_last(["show"], [world(ticks=True, word=1, result=2, first=1)], [])

    def test_set(self):
        self.assert_last(["time; set 2; show"], [TICK, QUIET, QUIET], [])
        self.assert_last(["time; set 1; show"], [TICK, QUIET, QUIET], [])

    def test_load(self):
        self.assert_last(["call; save 1; set 0; load 1; show"], [world(result=1), *quiets(4)], [(0, "results")])
        self.assert_last(["call; load 1; show"], [world(result=1), *quiets(2)], [])

    def test_add(self):
        worlds = [world(result=1), QUIET, TICK, QUIET, QUIET]
        self.assert_last(["call; save 0; time; add 0; show"], worlds, [(0, "results"), (2, "ticks")])
        # It need not change the number.
        self.assert_last(["call; add 0; show"], [world(result=1), *quiets(2)], [(0, "results")])
        # The cell and the hand are the same number twice.
        self.assert_last(["call; save 0; add 0; show"], [world(result=1), *quiets(3)], [(0, "results")])

    def test_save(self):
        # It gives the origin to the cell, and the hand keeps its own.
        self.assert_last(["call; save 0; show"], [world(result=1), *quiets(2)], [(0, "results")])
        worlds = [world(first=2), *quiets(3)]
        self.assert_last(["first 0; save 0; load 0; show"], worlds, [])

    def test_first(self):
        self.assert_last(["first 0; load 0; show"], [world(first=2), *quiets(2)], [(0, "firsts")])
        self.assert_last(["first 0; load 0; show"], quiets(3), [])
        # The hand is another number, and keeps its origin.
        self.assert_last(["call; first 0; show"], [world(result=1), world(first=1), QUIET], [(0, "results")])
        # A first content of 0 takes the origin away that the cell has had.
        worlds = [world(result=1), QUIET, QUIET, QUIET, QUIET]
        self.assert_last(["call; save 0; first 0; load 0; show"], worlds, [])
        self.assert_last(["call; save 0; first 0; load 0; show"], [*worlds[:2], world(first=1), *worlds[3:]],
                         [(2, "firsts")])

    def test_time(self):
        self.assert_last(["time; show"], [TICK, QUIET], [(0, "ticks")])
        self.assert_last(["time; show"], [QUIET, QUIET], [])
        # A tick behind does not reach the hand any more.
        self.assert_last(["time; show"], [TICK, TICK], [(0, "ticks")])

    def test_a_clock_that_ticks_several_times(self):
        self.assert_last(["set 0; set 0; set 0; time; show"], [TICK, TICK, QUIET, TICK, QUIET],
                         [(0, "ticks"), (1, "ticks"), (3, "ticks")])
        # Behind three ticks the clock is 0 again, and its origin stays.
        self.assert_last(["time; show"], [TICK, TICK, TICK, QUIET], [(0, "ticks"), (1, "ticks"), (2, "ticks")])
        expected = [(0, "ticks"), (1, "ticks"), (3, "ticks"), (4, "ticks")]
        self.assert_last(["time; show"], [TICK, TICK, QUIET, TICK, TICK, QUIET], expected)

    def test_take(self):
        self.assert_last(["take; show"], [world(word=2), QUIET], [(0, "words")])
        self.assert_last(["take; show"], quiets(2), [])
        self.assert_last(["call; take; show"], [world(result=1), QUIET, QUIET], [])
        # The first word is taken first.
        words = [world(word=1), world(word=2)]
        self.assert_last(["shut; shut; take; show"], [*words, QUIET, QUIET], [(0, "words")])
        self.assert_last(["shut; shut; take; take; show"], [*words, *quiets(3)], [(1, "words")])

    def test_count(self):
        self.assert_last(["count; show"], quiets(2), [])
        self.assert_last(["call; count; show"], [world(result=2), QUIET, QUIET], [])
        self.assert_last(["count; show"], [world(word=2), QUIET], [(0, "words")])
        self.assert_last(["open; count; show"], [world(word=2), world(word=1), QUIET], [(0, "words"), (1, "words")])
        # A word that is lost does not wait, and a word that was taken waits no longer.
        words = [world(word=1)] * 3
        self.assert_last(["open; open; count; show"], [*words, QUIET], [(0, "words"), (1, "words")])
        self.assert_last(["open; take; count; show"], [*words[:2], QUIET, QUIET], [(1, "words")])
        self.assert_last(["open; take; count; show"], [*words, QUIET], [(1, "words"), (2, "words")])

    def test_spilt(self):
        words = [world(word=1)] * 3
        self.assert_last(["open; open; spilt; show"], [*words, QUIET], [(2, "words")])
        self.assert_last(["open; open; spilt; show"], [*words[:2], QUIET, QUIET], [])
        several = [*words, world(word=2), QUIET]
        self.assert_last(["open; open; open; spilt; show"], several, [(2, "words"), (3, "words")])
        # The mark begins anew.
        self.assert_last(["open; open; spilt; spilt; show"], [*words, QUIET, QUIET], [])
        again = [*words, world(word=2), QUIET]
        self.assert_last(["open; open; spilt; spilt; show"], again, [(3, "words")])

    def test_call(self):
        self.assert_last(["call; show"], [world(result=2), QUIET], [(0, "results")])
        self.assert_last(["call; show"], [QUIET, world(result=2)], [])
        self.assert_last(["time; call; show"], [TICK, QUIET, QUIET], [])

    def test_what_changes_nothing(self):
        for word in ["jump 2", "show", "shut", "open", "save 1", "first 1"]:
            worlds = [world(result=1), world(ticks=True, first=1), QUIET]
            self.assert_last(["call; " + word + "; show"], worlds, [(0, "results")])

    def test_the_hand_of_the_handler(self):
        alarm = world(alarms=True)
        self.assertEqual(self.origins(scheme_of("show", handler="show; call"), [alarm, world(result=1), alarm]),
                         [[], None, []])
        # It is empty also when the handler begins for the second time, and when a thread's hand is not.
        scheme = scheme_of("time; show", handler="show; time; show")
        worlds = [TICK, alarm, TICK, QUIET, QUIET, alarm]
        self.assertEqual(self.origins(scheme, worlds),
                         [None, [], None, [(0, "ticks"), (2, "ticks")], [(0, "ticks")], []])

    def test_the_handler_keeps_its_hand_while_it_runs(self):
        scheme = scheme_of("show", handler="call; jump 2; show")
        worlds = [world(alarms=True, result=1), world(alarms=True), QUIET, QUIET]
        self.assertEqual(self.origins(scheme, worlds), [None, None, [(0, "results")], None])

    def test_hands_of_different_threads(self):
        scheme = scheme_of("call; show", "time; show")
        worlds = [world(result=1), world(rings=True, ticks=True), RING, RING]
        self.assertEqual(self.origins(scheme, worlds), [None, None, [(0, "results")], [(1, "ticks")]])

    def test_rings_and_alarms_are_in_no_origin(self):
        source = random.Random(146)
        for _ in range(100):
            scheme = telling_scheme(source, ALL_KINDS)
            worlds = [some_world(source) for _ in range(20)]
            for found in self.origins(scheme, worlds):
                for _, kind in found or []:
                    self.assertIn(kind, ("ticks", "words", "results", "firsts"))

    def test_the_order_within_a_step(self):
        # A tick, a word and a first content of one step come together in one number.
        scheme = scheme_of("first 0; time; add 0; save 0; take", "load 0; add 0; show", handler="take; add 0; show")
        worlds = [world(word=2, ticks=True, first=1), QUIET, QUIET, QUIET, world(alarms=True), QUIET, QUIET]
        self.assertEqual(origin(scheme, worlds, 6), [(0, "ticks"), (0, "words"), (0, "firsts")])
        # With more steps, these come first.
        worlds = [world(first=1), world(ticks=True), QUIET, QUIET, world(alarms=True, word=1), QUIET, QUIET]
        self.assertEqual(origin(scheme, worlds, 6), [(0, "firsts"), (1, "ticks"), (4, "words")])
        worlds = [world(word=1), world(ticks=True), QUIET, QUIET, world(alarms=True, first=1), QUIET, QUIET]
        self.assertEqual(origin(scheme, worlds, 6), [(0, "words"), (1, "ticks")])


class Matters(unittest.TestCase):
    def test_another_number(self):
        self.assertEqual(matters(scheme_of("time; show"), [TICK, QUIET], 1), [(0, "ticks")])

    def test_none_instead_of_a_number(self):
        # Without the ring, the step shows nothing.
        self.assertEqual(matters(scheme_of("time", "show"), [RING], 0), [(0, "rings")])

    def test_a_number_instead_of_none(self):
        # Without the ring, the step shows a number.
        self.assertEqual(matters(scheme_of("show", "time"), [RING], 0), [(0, "rings")])
        self.assertIsNone(origin(scheme_of("show", "time"), [RING], 0))

    def test_a_ring_and_an_alarm_that_are_in_no_origin(self):
        scheme = scheme_of("show", "set 2; show")
        self.assertEqual([matters(scheme, [RING, QUIET], 1), origin(scheme, [RING, QUIET], 1)], [[(0, "rings")], []])
        scheme = scheme_of("show", handler="set 2; show")
        worlds = [world(alarms=True), QUIET]
        self.assertEqual([matters(scheme, worlds, 1), origin(scheme, worlds, 1)], [[(0, "alarms")], []])

    def test_what_is_in_an_origin_need_not_matter(self):
        # Three times the same number make 0, whatever it is.
        scheme = scheme_of("call; save 0; add 0; add 0; show")
        worlds = [world(result=2), *quiets(4)]
        self.assertEqual([matters(scheme, worlds, 4), origin(scheme, worlds, 4)], [[], [(0, "results")]])

    def test_a_part_behind_the_step(self):
        scheme = scheme_of("time; show")
        self.assertEqual(matters(scheme, [TICK, QUIET, TICK, TICK], 1), [(0, "ticks")])
        self.assertEqual(matters(scheme, [QUIET, QUIET, TICK, TICK], 1), [])
        # A tick of the step itself comes too late for the hand, a ring does not.
        self.assertEqual(matters(scheme, [QUIET, TICK], 1), [])
        self.assertEqual(matters(scheme_of("show", "show; set 1"), [QUIET, RING], 1), [])
        self.assertEqual(matters(scheme_of("show", "time; set 1"), [QUIET, RING], 1), [(1, "rings")])

    def test_a_step_that_shows_nothing(self):
        scheme = scheme_of("time; show")
        self.assertEqual(matters(scheme, [TICK, QUIET], 0), [])
        self.assertEqual(matters(scheme, [world(rings=True, ticks=True, word=1, result=1)], 0), [])

    def test_all_six_kinds(self):
        cases = {
            "rings": (scheme_of("show", "set 1; show"), [RING, QUIET]),
            "alarms": (scheme_of("show", handler="set 1; show"), [world(alarms=True), QUIET]),
            "ticks": (scheme_of("time; show"), [TICK, QUIET]),
            "words": (scheme_of("take; show"), [world(word=2), QUIET]),
            "results": (scheme_of("call; show"), [world(result=2), QUIET]),
            "firsts": (scheme_of("first 0; load 0; show"), [world(first=2), QUIET, QUIET]),
        }
        for kind, (scheme, worlds) in cases.items():
            self.assertEqual(matters(scheme, worlds, len(worlds) - 1), [(0, kind)])

    def test_the_order(self):
        # The other thread shows the sum of a first content and of the clock, of which both come at one step.
        scheme = scheme_of("first 0", "time; add 0; show")
        worlds = [world(ticks=True, first=1), world(rings=True), QUIET, QUIET]
        self.assertEqual(matters(scheme, worlds, 3), [(0, "ticks"), (0, "firsts"), (1, "rings")])

    def test_only_parts_of_kinds_that_can_happen(self):
        scheme = scheme_of("call; show", kinds=("ticks", "results"))
        self.assertEqual(matters(scheme, [world(ticks=True, result=1), QUIET], 1), [(0, "results")])

    def test_each_part_is_quieted_alone(self):
        # Without one of the words the other one is taken; without both, none would be.
        scheme = scheme_of("open; take; show")
        worlds = [world(word=1), world(word=1), QUIET]
        self.assertEqual([shown(scheme, worlds), shown(scheme, quiets(3))], [[None, None, 1], [None, None, 0]])
        self.assertEqual(matters(scheme, worlds, 2), [])
        self.assertEqual(origin(scheme, worlds, 2), [(0, "words")])


class Refused(unittest.TestCase):
    def calls(self, scheme, worlds, step=0, last=0):
        return [lambda: writer(scheme, worlds, step, last), lambda: first_shown(scheme, worlds, last),
                lambda: origin(scheme, worlds, step), lambda: matters(scheme, worlds, step)]

    def test_not_a_scheme(self):
        for value in [*ODD, Scheme]:
            for worlds in ([QUIET], None):
                for call in self.calls(value, worlds, None, None):
                    with self.assertRaises(BadScheme) as caught:
                        call()
                    self.assertIsNone(caught.exception.part)

    def test_wrong_worlds(self):
        scheme = scheme_of("show", kinds=("ticks",))
        wrong = [(None, None), ("", None), ({}, None), (quiets(201), None), ([None] * 201, None), ([None], 0),
                 ([QUIET, TICK, RING], 2), ((QUIET, [False]), 1), ([world(ticks=1)], 0), (QUIET, 0)]
        for worlds, index in wrong:
            for call in [*self.calls(scheme, worlds), *self.calls(scheme, worlds, None, None)]:
                with self.assertRaises(BadWorlds) as caught:
                    call()
                self.assertEqual(repr(caught.exception.index), repr(index))

    def test_steps(self):
        scheme = scheme_of("show")
        for many in (0, 1, 3, 200):
            worlds = quiets(many)
            for step in [*NUMBERS, *range(-2, 5), 199, 200, 201]:
                right = isinstance(step, int) and not isinstance(step, bool) and 0 <= step
                self.assert_step(right and step <= many, lambda: writer(scheme, worlds, step, 0))
                self.assert_step(right and step < many, lambda: origin(scheme, worlds, step))
            for step in [*NUMBERS, -1, 0, 1, 2, 3, 199, 200]:
                right = isinstance(step, int) and not isinstance(step, bool) and 0 <= step < many
                self.assert_step(right, lambda: matters(scheme, worlds, step))

    def assert_step(self, right, call):
        if right:
            call()
            return
        with self.assertRaises(BadStep):
            call()

    def test_cells_and_numbers(self):
        scheme = scheme_of("show")
        for value in [*NUMBERS, 3, 4, -2]:
            with self.assertRaises(BadCell):
                writer(scheme, [QUIET], 1, value)
            with self.assertRaises(BadNumber):
                first_shown(scheme, [QUIET], value)
            with self.assertRaises(BadStep):
                writer(scheme, [QUIET], 2, value)
        for value in range(3):
            writer(scheme, [QUIET], 1, value)
            first_shown(scheme, [QUIET], value)

    def test_lists_are_new_and_worlds_stay(self):
        scheme, worlds = scheme_of("time; show"), [TICK, QUIET]
        for call in (origin, matters):
            call(scheme, worlds, 1).clear()
            self.assertEqual(call(scheme, worlds, 1), [(0, "ticks")])
        writer(scheme, worlds, 2, 0)
        first_shown(scheme, worlds, 0)
        self.assertEqual(worlds, [TICK, QUIET])
        self.assertEqual(notes(scheme, worlds, ALL_KINDS), {0: (("ticks", True),)})


if __name__ == "__main__":
    unittest.main()
