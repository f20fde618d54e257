"""Tests of samerun.machines: [3] and [5], and what [1] says of machines."""

import random
import unittest

from samerun.errors import BadScheme, BadWorlds
from samerun.machines import Machine, machine_at
from samerun.schemes import QUIET, Scheme
from tests.reference import Reference
from tests.samples import ODD, ran, scheme_of, some_scheme, some_world, world

RING, ALARM, TICK = world(rings=True), world(alarms=True), world(ticks=True)
# The indices of the parts of a state.
THREADS, CURRENT, HANDLER, CELLS, CLOCK, WORDS, LOST, OPEN, PENDING = range(9)


class MachineTest(unittest.TestCase):
    def assert_state(self, machine, expected):
        # The representation tells a boolean from an integer.
        self.assertEqual(repr(machine.state), repr(expected))

    def shown(self, scheme, *worlds):
        return ran(scheme, worlds)[1]

    def part(self, index, scheme, *worlds):
        return ran(scheme, worlds)[0].state[index]


class Beginning(MachineTest):
    def test_the_state_at_the_beginning(self):
        for many in (1, 2, 3):
            machine = Machine(scheme_of(*["set 2; show"] * many, handler="show"))
            expected = (((0, 0),) * many, 0, None, (0, 0, 0), 0, (), False, True, False)
            self.assert_state(machine, expected)
            self.assertEqual(machine.steps, 0)

    def test_the_scheme(self):
        scheme = scheme_of("show", kinds=("ticks",))
        self.assertEqual(Machine(scheme).scheme, scheme)

    def test_not_a_scheme(self):
        for value in [*ODD, ((("show", 0),),), Scheme]:
            for call in [lambda: Machine(value), lambda: machine_at(value, None)]:
                with self.assertRaises(BadScheme) as caught:
                    call()
                self.assertIsNone(caught.exception.part)

    def test_properties_cannot_be_set(self):
        machine = Machine(scheme_of("show"))
        for name in ["scheme", "steps", "state"]:
            self.assertIsInstance(getattr(Machine, name), property)
            with self.assertRaises(AttributeError):
                setattr(machine, name, None)


class States(MachineTest):
    def test_each_part_in_its_order(self):
        scheme = scheme_of("set 2; save 1; shut", "set 1; show", handler="set 1; save 0; show")
        machine, _ = ran(scheme, [
            QUIET, QUIET, world(alarms=True, ticks=True), world(word=2), world(word=1), world(rings=True, word=1),
        ])
        expected = [((2, 2), (1, 1)), 1, None, (1, 2, 0), 1, (2, 1), True, True, False]
        self.assert_state(machine, tuple(expected))
        machine.step(world(alarms=True, ticks=True))
        expected[HANDLER], expected[CLOCK] = (1, 1), 2
        self.assert_state(machine, tuple(expected))
        machine.step(ALARM)
        expected[HANDLER], expected[PENDING] = (2, 1), True
        self.assert_state(machine, tuple(expected))
        machine.step(QUIET)
        expected[HANDLER] = None
        self.assert_state(machine, tuple(expected))

    def test_the_first_steps_of_the_document(self):
        scheme = scheme_of("time; show", "take; save 1; show", handler="set 2; save 0")
        machine, shown = ran(scheme, [world(ticks=True, word=2), QUIET, RING, ALARM])
        self.assertEqual(shown, [None, 1, None, None])
        self.assert_state(machine, (((0, 1), (1, 2)), 1, (1, 2), (0, 0, 0), 1, (), False, True, False))
        self.assertEqual(machine.next(), (None, ("save", 0)))
        self.assertEqual(machine.steps, 4)

    def test_machine_at(self):
        scheme = scheme_of("time; show; set 1", "call; show", handler="spilt; show")
        worlds = [world(ticks=True), QUIET, world(rings=True, result=2), ALARM, TICK, QUIET]
        for many in range(len(worlds)):
            before, _ = ran(scheme, worlds[:many])
            after = machine_at(scheme, before.state)
            self.assertEqual(after.steps, 0)
            self.assert_state(after, before.state)
            self.assertEqual(after.scheme, scheme)
            self.assertEqual(after.next(), before.next())
            for each in worlds[many:]:
                self.assertEqual(after.step(each), before.step(each))
            self.assert_state(after, before.state)
            self.assertEqual(after.steps, len(worlds) - many)

    def test_copy_is_independent(self):
        machine, _ = ran(scheme_of("time; show"), [TICK])
        copy = machine.copy()
        self.assertEqual((copy.state, copy.steps, copy.scheme), (machine.state, 1, machine.scheme))
        copy.step(TICK)
        self.assertEqual((machine.steps, copy.steps), (1, 2))
        self.assertEqual((machine.state[CLOCK], copy.state[CLOCK]), (1, 2))
        machine.step(QUIET)
        self.assertEqual((machine.state[CLOCK], copy.state[CLOCK]), (1, 2))

    def test_equality(self):
        scheme = scheme_of("show; show")
        one, other = Machine(scheme), Machine(scheme_of("show; show"))
        self.assertTrue(one == other)
        self.assertTrue(one == one.copy())
        one.step(QUIET)
        self.assertFalse(one == other)
        self.assertTrue(one != other)
        one.step(QUIET)
        self.assertTrue(one == other, "the number of steps does not count")
        self.assertFalse(Machine(scheme) == Machine(scheme_of("show; set 0")))
        self.assertFalse(Machine(scheme) == Machine(scheme_of("show; show", kinds=("rings",))))

    def test_a_state_that_was_given_does_not_change(self):
        machine = Machine(scheme_of("set 1; save 0"))
        state = machine.state
        machine.step(QUIET)
        machine.step(QUIET)
        self.assertEqual(state, (((0, 0),), 0, None, (0, 0, 0), 0, (), False, True, False))


class RefusedSteps(MachineTest):
    def test_a_refused_world_changes_nothing(self):
        machine, _ = ran(scheme_of("time; show; set 2", kinds=("ticks", "words")), [TICK, world(word=1)])
        before = machine.state
        loud = [RING, ALARM, world(result=1), world(first=2), (False, False, 1, None, 0, 0), list(TICK)]
        for value in [*ODD, *loud, QUIET + (0,), world(result=False), world(word=True), world(word=0)]:
            with self.assertRaises(BadWorlds) as caught:
                machine.step(value)
            self.assertIsNone(caught.exception.index)
            self.assert_state(machine, before)
            self.assertEqual(machine.steps, 2)
        self.assertIsNone(machine.step(QUIET))
        self.assertEqual(machine.steps, 3)

    def test_more_than_two_hundred_steps(self):
        machine, shown = ran(scheme_of("show"), [QUIET] * 300)
        self.assertEqual((machine.steps, len(shown)), (300, 300))


class Arrivals(MachineTest):
    def test_the_clock_wraps(self):
        scheme = scheme_of("set 0")
        self.assertEqual([self.part(CLOCK, scheme, *[TICK] * many) for many in range(5)], [0, 1, 2, 0, 1])

    def test_a_tick_and_time_in_one_step(self):
        self.assertEqual(self.shown(scheme_of("time; show"), TICK, QUIET), [None, 1])
        self.assertEqual(self.shown(scheme_of("time; show"), QUIET, TICK), [None, 0])

    def test_words_wait_in_order(self):
        scheme = scheme_of("set 0")
        self.assertEqual(self.part(WORDS, scheme, world(word=2), world(word=1)), (2, 1))
        self.assertIs(self.part(LOST, scheme, world(word=2), world(word=1)), False)

    def test_the_third_word_is_lost(self):
        scheme = scheme_of("set 0")
        worlds = [world(word=2), world(word=1), world(word=2)]
        self.assertEqual(self.part(WORDS, scheme, *worlds), (2, 1))
        self.assertIs(self.part(LOST, scheme, *worlds), True)

    def test_a_word_that_arrives_and_take_in_one_step(self):
        machine, shown = ran(scheme_of("take; show"), [world(word=2), QUIET])
        self.assertEqual((shown, machine.state[WORDS]), ([None, 2], ()))

    def test_a_word_arrives_before_take_makes_room(self):
        scheme = scheme_of("set 0; set 0; take; show")
        machine, shown = ran(scheme, [world(word=1), world(word=2), world(word=1), QUIET])
        self.assertEqual((shown[3], machine.state[WORDS], machine.state[LOST]), (1, (2,), True))

    def test_a_word_is_lost_before_spilt_asks(self):
        scheme = scheme_of("set 0; set 0; spilt; show; spilt")
        worlds = [world(word=1), world(word=2), world(word=1)]
        machine, _ = ran(scheme, worlds)
        self.assertIs(machine.state[LOST], False)
        self.assertEqual(machine.step(world(word=2)), 1)
        self.assertIs(machine.state[LOST], True)
        machine.step(QUIET)
        self.assertEqual((machine.state[THREADS], machine.state[LOST]), (((0, 1),), False))


class Timer(MachineTest):
    def currents(self, many):
        scheme = scheme_of(*["set 0"] * many)
        return [self.part(CURRENT, scheme, *[RING] * rings) for rings in range(5)]

    def test_the_next_thread_is_current(self):
        self.assertEqual(self.currents(1), [0, 0, 0, 0, 0])
        self.assertEqual(self.currents(2), [0, 1, 0, 1, 0])
        self.assertEqual(self.currents(3), [0, 1, 2, 0, 1])

    def test_the_next_thread_does_the_instruction_of_this_step(self):
        machine, _ = ran(scheme_of("set 1", "set 2; show"), [RING])
        self.assertEqual(machine.state[THREADS], ((0, 0), (1, 2)))
        self.assertEqual(machine.step(QUIET), 2)

    def test_hands_and_places_stay(self):
        scheme = scheme_of("set 1; show; show", "set 2; show")
        self.assertEqual(self.shown(scheme, QUIET, RING, RING, RING, RING), [None, None, 1, 2, 1])

    def test_no_ring_while_the_handler_runs(self):
        scheme = scheme_of("set 1", "set 2", handler="set 0; set 0")
        self.assertEqual(self.part(CURRENT, scheme, ALARM, RING), 0)
        self.assertEqual(self.part(CURRENT, scheme, ALARM, RING, RING), 1)

    def test_a_ring_and_an_alarm_in_one_step(self):
        scheme = scheme_of("set 1", "set 2", handler="set 0; set 0")
        machine, _ = ran(scheme, [world(rings=True, alarms=True)])
        self.assertEqual((machine.state[CURRENT], machine.state[HANDLER]), (1, (1, 0)))
        self.assertEqual(machine.state[THREADS], ((0, 0), (0, 0)))


class Alarms(MachineTest):
    def test_the_handler_runs_in_the_same_step(self):
        machine, shown = ran(scheme_of("show", handler="set 2; show"), [ALARM, QUIET, QUIET])
        self.assertEqual(shown, [None, 2, 0])
        self.assertEqual((machine.state[HANDLER], machine.state[PENDING]), (None, False))

    def test_an_alarm_while_alarms_are_shut(self):
        scheme = scheme_of("shut; set 0; open; set 1", handler="set 0; set 0")
        machine, _ = ran(scheme, [QUIET, ALARM])
        self.assertEqual(machine.state[HANDLER:], (None, (0, 0, 0), 0, (), False, False, True))
        machine.step(QUIET)
        self.assertEqual(machine.state[HANDLER:], (None, (0, 0, 0), 0, (), False, True, True))
        machine.step(QUIET)
        self.assertEqual(machine.state[HANDLER:], ((1, 0), (0, 0, 0), 0, (), False, True, False))

    def test_shut_comes_too_late_for_an_alarm_of_its_step(self):
        machine, _ = ran(scheme_of("shut", handler="set 0; set 0"), [ALARM])
        self.assertEqual((machine.state[HANDLER], machine.state[OPEN]), ((1, 0), True))

    def test_an_alarm_while_the_handler_runs(self):
        scheme = scheme_of("set 0", handler="set 1; show")
        machine, shown = ran(scheme, [ALARM, ALARM])
        self.assertEqual((shown, machine.state[HANDLER], machine.state[PENDING]), ([None, 1], None, True))
        machine.step(QUIET)
        self.assertEqual((machine.state[HANDLER], machine.state[PENDING]), ((1, 1), False))

    def test_two_alarms_pend_as_one(self):
        machine, _ = ran(scheme_of("set 0", handler="set 0; set 0; set 0"), [ALARM, ALARM, ALARM])
        self.assertIs(machine.state[PENDING], True)
        for _ in range(3):
            machine.step(QUIET)
        self.assertEqual((machine.state[HANDLER], machine.state[PENDING]), (None, False))
        machine.step(QUIET)
        self.assertIsNone(machine.state[HANDLER])

    def test_no_handler(self):
        machine, _ = ran(scheme_of("set 1; show"), [ALARM, QUIET])
        self.assertEqual((machine.state[HANDLER], machine.state[PENDING]), (None, True))
        self.assertEqual(machine.next(), (0, ("set", 1)))

    def test_the_handler_begins_anew(self):
        scheme = scheme_of("set 1", handler="show; set 2")
        self.assertEqual(self.shown(scheme, ALARM, QUIET, ALARM, QUIET, ALARM), [0, None, 0, None, 0])

    def test_the_threads_wait(self):
        scheme = scheme_of("set 1; show", handler="set 2; set 2")
        self.assertEqual(self.shown(scheme, QUIET, ALARM, QUIET, QUIET), [None, None, None, 1])

    def test_a_handler_of_one_instruction(self):
        machine, shown = ran(scheme_of("set 1", handler="show"), [ALARM])
        self.assertEqual((shown, machine.state[HANDLER], machine.state[PENDING]), ([0], None, False))

    def test_shut_and_open_in_the_handler(self):
        scheme = scheme_of("set 0", handler="shut; set 0")
        machine, _ = ran(scheme, [ALARM, ALARM, ALARM])
        self.assertEqual(machine.state[HANDLER:], (None, (0, 0, 0), 0, (), False, False, True))


class Instructions(MachineTest):
    def after(self, text, *worlds):
        """Return the state after one step of each instruction of a text, with these worlds first."""
        machine = Machine(scheme_of(text))
        for each in [*worlds, *[QUIET] * (len(machine.scheme.threads[0]) - len(worlds))]:
            machine.step(each)
        return machine.state

    def hand(self, text, *worlds):
        return self.after(text, *worlds)[THREADS][0][1]

    def test_set(self):
        self.assertEqual([self.hand(f"set {number}") for number in range(3)], [0, 1, 2])

    def test_load_and_save(self):
        for cell in range(3):
            self.assertEqual(self.hand(f"set 2; save {cell}; set 1; load {cell}"), 2)
            self.assertEqual(self.hand(f"set 2; save {cell}; load {(cell + 1) % 3}"), 0)
            expected = tuple(2 if each == cell else 0 for each in range(3))
            state = self.after(f"set 2; save {cell}")
            self.assertEqual((state[CELLS], state[THREADS]), (expected, ((0, 2),)))

    def test_add_wraps(self):
        for number in range(3):
            for hand in range(3):
                text = f"set {number}; save 1; set {hand}; add 1"
                self.assertEqual(self.hand(text), (number + hand) % 3)
        self.assertEqual(self.after("set 2; save 1; add 1")[CELLS], (0, 2, 0))

    def test_first(self):
        for cell in range(3):
            for content in range(3):
                state = self.after(f"set 1; first {cell}", QUIET, world(first=content))
                self.assertEqual(state[CELLS], tuple(content if each == cell else 0 for each in range(3)))
                self.assertEqual(state[THREADS], ((0, 1),))
        self.assertEqual(self.after("set 2; save 0; first 0")[CELLS], (0, 0, 0))
        self.assertEqual(self.after("set 2", world(first=1))[CELLS], (0, 0, 0))

    def test_jump(self):
        machine = Machine(scheme_of("jump 2; set 1; set 2"))
        machine.step(QUIET)
        self.assertEqual(machine.state[THREADS], ((2, 0),))
        machine.step(QUIET)
        self.assertEqual(machine.state[THREADS], ((0, 2),))
        for hand in (1, 2):
            machine, _ = ran(scheme_of(f"set {hand}; jump 0; show"), [QUIET, QUIET])
            self.assertEqual(machine.state[THREADS], ((2, hand),))
        machine, _ = ran(scheme_of("set 0; jump 1"), [QUIET] * 4)
        self.assertEqual(machine.state[THREADS], ((1, 0),))
        machine, _ = ran(scheme_of("set 1; jump 1"), [QUIET] * 2)
        self.assertEqual(machine.state[THREADS], ((0, 1),))

    def test_jump_in_the_handler(self):
        scheme = scheme_of("set 1", handler="jump 2; set 1; show")
        machine, shown = ran(scheme, [ALARM, QUIET])
        self.assertEqual((shown, machine.state[HANDLER]), ([None, 0], None))
        machine, _ = ran(scheme_of("set 1", handler="set 0; jump 0"), [ALARM, QUIET])
        self.assertEqual(machine.state[HANDLER], (0, 0))
        machine, _ = ran(scheme_of("set 1", handler="set 2; jump 0"), [ALARM, QUIET])
        self.assertIsNone(machine.state[HANDLER])
        machine, _ = ran(scheme_of("set 1", handler="jump 0"), [ALARM] + [QUIET] * 5)
        self.assertEqual(machine.state[HANDLER], (0, 0))

    def test_show(self):
        for hand in range(3):
            self.assertEqual(self.shown(scheme_of(f"set {hand}; show; show"), *[QUIET] * 3), [None, hand, hand])

    def test_only_show_shows(self):
        texts = ["set 1", "load 1", "add 1", "save 1", "first 1", "jump 0", "shut", "open", "time", "take", "count",
                 "spilt", "call"]
        for text in texts:
            self.assertEqual(self.shown(scheme_of(text), world(ticks=True, word=2, result=2, first=1)), [None], text)

    def test_shut_and_open(self):
        self.assertEqual(self.after("set 1; shut")[THREADS:], (((0, 1),), 0, None, (0, 0, 0), 0, (), False, False, False))
        self.assertIs(self.after("shut; open")[OPEN], True)
        self.assertIs(self.after("shut; shut; set 0")[OPEN], False)
        self.assertIs(self.after("open")[OPEN], True)

    def test_time(self):
        self.assertEqual([self.hand("time", *[TICK] * many) for many in range(2)], [0, 1])
        self.assertEqual(self.hand("set 0; time", TICK, TICK), 2)
        self.assertEqual(self.after("time", TICK)[CLOCK], 1)

    def test_take(self):
        self.assertEqual(self.hand("set 1; take"), 0)
        state = self.after("set 0; set 0; take", world(word=2), world(word=1))
        self.assertEqual((state[THREADS], state[WORDS]), (((0, 2),), (1,)))
        state = self.after("set 0; set 0; take; take", world(word=2), world(word=1))
        self.assertEqual((state[THREADS], state[WORDS]), (((0, 1),), ()))

    def test_count(self):
        self.assertEqual([self.hand("set 2; set 2; set 2; count", *[world(word=2)] * many) for many in range(4)],
                         [0, 1, 2, 2])
        self.assertEqual(self.after("set 0; count", world(word=2))[WORDS], (2,))

    def test_spilt(self):
        three = [world(word=1)] * 3
        self.assertEqual(self.hand("set 2; spilt"), 0)
        state = self.after("set 2; set 2; set 2; spilt", *three)
        self.assertEqual((state[THREADS], state[LOST]), (((0, 1),), False))
        self.assertEqual(self.hand("set 2; set 2; set 2; spilt; spilt", *three), 0)
        self.assertIs(self.after("set 2; set 2; set 2; count", *three)[LOST], True)

    def test_call(self):
        self.assertEqual([self.hand("call", world(result=number)) for number in range(3)], [0, 1, 2])
        self.assertEqual(self.hand("set 1; call", world(result=2)), 0)

    def test_the_handler_has_its_own_hand(self):
        scheme = scheme_of("set 1; save 0; show", handler="set 2; save 1; show")
        machine, shown = ran(scheme, [QUIET, ALARM, QUIET, QUIET, QUIET, QUIET])
        self.assertEqual(shown, [None, None, None, 2, None, 1])
        self.assertEqual((machine.state[CELLS], machine.state[THREADS]), ((1, 2, 0), ((0, 1),)))

    def test_the_end_of_a_thread(self):
        for many in range(1, 6):
            machine, _ = ran(scheme_of("; ".join(["set 1"] * many)), [QUIET] * (many - 1))
            self.assertEqual(machine.state[THREADS][0][0], many - 1)
            machine.step(QUIET)
            self.assertEqual(machine.state[THREADS], ((0, 1),))


class Next(MachineTest):
    def test_threads(self):
        machine = Machine(scheme_of("set 1; show", "set 2; load 1"))
        self.assertEqual(machine.next(), (0, ("set", 1)))
        machine.step(QUIET)
        self.assertEqual(machine.next(), (0, ("show", 0)))
        machine.step(RING)
        self.assertEqual(machine.next(), (1, ("load", 1)))

    def test_the_handler(self):
        machine, _ = ran(scheme_of("set 1", handler="set 2; save 1"), [ALARM])
        self.assertEqual(machine.next(), (None, ("save", 1)))
        machine.step(ALARM)
        self.assertIsNone(machine.state[HANDLER])
        self.assertEqual(machine.next(), (None, ("set", 2)), "a pending alarm begins the handler in a quiet step")

    def test_a_pending_alarm_that_is_shut(self):
        machine, _ = ran(scheme_of("shut; open", handler="set 2"), [QUIET, ALARM])
        self.assertEqual(machine.next(), (None, ("set", 2)))
        machine, _ = ran(scheme_of("shut; set 1; set 0", handler="set 2"), [QUIET, ALARM])
        self.assertEqual(machine.next(), (0, ("set", 0)))

    def test_next_changes_nothing(self):
        machine, _ = ran(scheme_of("shut; open", handler="set 2"), [QUIET, ALARM])
        before = machine.state
        machine.next()
        self.assertEqual((machine.state, machine.steps), (before, 2))


class AgainstTheReference(MachineTest):
    def test_many_runs(self):
        source = random.Random(1)
        for _ in range(400):
            scheme = some_scheme(source)
            machine, reference = Machine(scheme), Reference(scheme.threads, scheme.handler)
            for _ in range(60):
                each = some_world(source, scheme.kinds)
                self.assertEqual(repr(machine.step(each)), repr(reference.step(each)), (scheme.threads, each))
                self.assert_state(machine, reference.state())


if __name__ == "__main__":
    unittest.main()
