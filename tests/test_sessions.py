"""Tests of samerun.sessions: [15], and what [1] says of it."""

import random
import unittest

from samerun.errors import BadKinds, BadScheme, BadWorlds, NothingDone
from samerun.machines import Machine
from samerun.playing import compare, notes, played, shown
from samerun.schemes import ALL_KINDS, QUIET, Scheme
from samerun.sessions import Session
from tests.reference import Reference
from tests.samples import ODD, Sly, scheme_of, some_kinds, some_scheme, some_world, telling_scheme, world
from tests.search import apart, told_by, with_only

TICK = world(ticks=True)
RING = world(rings=True)
CLOCK = scheme_of("time; show")
# A session with this scheme and these kinds is at one step apart from the next but one on.
TOLD = scheme_of("call; show", "set 2; show", kinds=("rings", "results"))
WRONG = [*ODD, list(QUIET), QUIET[:5], world(word=True), world(ticks=1), world(result=3)]


def signs(session):
    """Return all that a session tells of itself, as a text."""
    both = [(machine.state, machine.steps, machine.next()) for machine in session.machines()]
    return repr((session.journal, session.notes, session.apart, len(session), both))


def replay(scheme, worlds):
    """Return the state of a second machine behind these worlds."""
    reference = Reference(scheme.threads, scheme.handler)
    for each in worlds:
        reference.step(each)
    return reference.state()


def expected(scheme, kinds, worlds):
    """Return what a session tells of itself behind these worlds, as a text."""
    heard = [with_only(each, kinds) for each in worlds]
    there, here = told_by(scheme, worlds), told_by(scheme, heard)
    noted = {}
    for step, each in enumerate(heard):
        pairs = tuple((kind, part) for kind, part, quiet in zip(ALL_KINDS, each, QUIET) if part != quiet)
        if pairs:
            noted[step] = pairs
    first = next((at for at in range(len(worlds)) if repr(there[at]) != repr(here[at])), None)
    both = []
    for run in (worlds, heard):
        machine = Machine(scheme)
        for each in run:
            machine.step(each)
        both.append((replay(scheme, run), len(worlds), machine.next()))
    return repr((list(zip(worlds, there, here)), noted, first, len(worlds), both))


def gone(scheme, kinds, worlds):
    """Return a session that has gone along these worlds."""
    session = Session(scheme, kinds)
    for each in worlds:
        session.step(each)
    return session


class Steps(unittest.TestCase):
    def test_at_the_beginning(self):
        session = Session(TOLD, ("results",))
        self.assertEqual((session.journal, session.notes, session.apart, len(session)), ([], {}, None, 0))
        self.assertEqual([machine.steps for machine in session.machines()], [0, 0])
        self.assertEqual(signs(session), expected(TOLD, ("results",), []))

    def test_both_machines_do_a_step(self):
        session = Session(TOLD, ("results",))
        worlds = [world(result=2), world(rings=True, result=1), QUIET, RING]
        found = [session.step(each) for each in worlds]
        self.assertEqual(found, [(None, None), (None, 2), (2, None), (2, 0)])
        self.assertEqual(session.journal, [(each, *both) for each, both in zip(worlds, found)])
        self.assertEqual(session.notes, {0: (("results", 2),), 1: (("results", 1),)})
        self.assertEqual((session.apart, len(session)), (1, 4))

    def test_kinds_of_values(self):
        session = gone(TOLD, ("results",), [world(result=2), RING])
        self.assertIsInstance(session.step(QUIET), tuple)
        self.assertIsInstance(session.journal, list)
        self.assertEqual({type(each) for each in session.journal}, {tuple})
        self.assertIsInstance(session.notes, dict)
        self.assertIsInstance(session.machines(), tuple)
        self.assertEqual([type(each) for each in session.machines()], [Machine, Machine])
        for name in ["journal", "notes", "apart"]:
            self.assertIsInstance(getattr(Session, name), property)
            with self.assertRaises(AttributeError):
                setattr(session, name, None)

    def test_against_runs(self):
        source = random.Random(151)
        for at in range(150):
            scheme = some_scheme(source) if at % 2 else telling_scheme(source, ALL_KINDS)
            kinds = tuple(kind for kind in scheme.kinds if source.random() < 0.5)
            worlds = [some_world(source, scheme.kinds) for _ in range(source.randint(0, 25))]
            session = Session(scheme, kinds)
            found = [session.step(each) for each in worlds]
            self.assertEqual(repr(found), repr(list(zip(shown(scheme, worlds), played(scheme, worlds, kinds)))))
            self.assertEqual(signs(session), expected(scheme, kinds, worlds))
            self.assertEqual(repr(session.notes), repr(notes(scheme, worlds, kinds)))
            parts = compare(scheme, worlds, kinds)
            self.assertEqual(session.apart, getattr(parts, "index", None))
            triple = apart(scheme, worlds, kinds)
            self.assertEqual(session.apart, None if triple is None else triple[0])

    def test_apart_at_the_first_step(self):
        session = Session(scheme_of("show", "set 0"), ())
        session.step(RING)
        self.assertEqual((session.apart, session.journal), (0, [(RING, None, 0)]))
        session.step(RING)
        self.assertEqual(session.apart, 0)

    def test_with_all_kinds_both_are_the_same(self):
        source = random.Random(152)
        for _ in range(20):
            scheme = telling_scheme(source, ALL_KINDS)
            session = gone(scheme, ALL_KINDS, [some_world(source) for _ in range(30)])
            self.assertIsNone(session.apart)
            self.assertEqual(*session.machines())

    def test_returned_lists_and_dicts_are_new(self):
        session = gone(CLOCK, ("ticks",), [TICK, QUIET])
        before = signs(session)
        session.journal.clear()
        session.notes.clear()
        self.assertEqual(signs(session), before)
        kept = session.journal, session.notes
        session.step(TICK)
        self.assertEqual(kept, ([(TICK, None, None), (QUIET, 1, 1)], {0: (("ticks", True),)}))

    def test_the_copies_of_the_machines_are_independent(self):
        for many in (0, 3):
            session = gone(CLOCK, (), [TICK] * many)
            before = signs(session)
            recorder, player = session.machines()
            self.assertEqual((recorder.steps, player.steps, recorder.scheme), (many, many, CLOCK))
            recorder.step(TICK)
            self.assertEqual(player, session.machines()[1])
            player.step(TICK)
            self.assertEqual(signs(session), before)
            state = recorder.state
            session.step(QUIET)
            self.assertEqual((recorder.state, recorder.steps, session.machines()[0].steps), (state, many + 1, many + 1))

    def test_two_hundred_steps(self):
        session = gone(CLOCK, ("ticks",), [TICK] * 199)
        session.step(TICK)
        before = signs(session)
        for each in [TICK, QUIET, None]:
            with self.assertRaises(BadWorlds) as caught:
                session.step(each)
            self.assertIsNone(caught.exception.index)
            self.assertEqual(signs(session), before)
        self.assertEqual(len(session), 200)
        session.undo()
        session.step(QUIET)
        with self.assertRaises(BadWorlds):
            session.step(QUIET)
        self.assertEqual(signs(session), expected(CLOCK, ("ticks",), [TICK] * 199 + [QUIET]))


class Undoing(unittest.TestCase):
    def test_down_to_the_beginning(self):
        source = random.Random(153)
        scheme = telling_scheme(source, ALL_KINDS)
        worlds = [some_world(source) for _ in range(12)]
        session = gone(scheme, ("ticks", "words"), worlds)
        for many in range(11, -1, -1):
            self.assertEqual(session.undo(), worlds[many])
            self.assertEqual(signs(session), expected(scheme, ("ticks", "words"), worlds[:many]))
        for _ in range(2):
            with self.assertRaises(NothingDone):
                session.undo()
            self.assertEqual(signs(session), expected(scheme, ("ticks", "words"), []))

    def test_a_step_after_an_undo(self):
        session = gone(CLOCK, ("ticks",), [TICK, QUIET])
        self.assertEqual([session.undo(), session.undo()], [QUIET, TICK])
        self.assertEqual([session.step(QUIET), session.step(QUIET)], [(None, None), (0, 0)])
        self.assertEqual(signs(session), expected(CLOCK, ("ticks",), [QUIET, QUIET]))

    def test_what_is_apart_may_come_together(self):
        session = gone(CLOCK, (), [TICK, QUIET])
        self.assertEqual(session.apart, 1)
        session.undo()
        self.assertIsNone(session.apart)


class Branches(unittest.TestCase):
    def test_independent_in_both_directions(self):
        session = gone(CLOCK, (), [TICK, QUIET])
        other = session.branch()
        self.assertIsInstance(other, Session)
        self.assertEqual(signs(other), signs(session))
        other.step(TICK)
        self.assertEqual(signs(session), expected(CLOCK, (), [TICK, QUIET]))
        session.undo()
        session.undo()
        session.step(QUIET)
        self.assertEqual(signs(other), expected(CLOCK, (), [TICK, QUIET, TICK]))
        self.assertEqual(signs(session), expected(CLOCK, (), [QUIET]))
        other.undo()
        self.assertEqual(signs(session), expected(CLOCK, (), [QUIET]))

    def test_a_branch_at_the_beginning(self):
        session = Session(CLOCK, ("ticks",))
        other = session.branch()
        session.step(TICK)
        self.assertEqual(signs(other), expected(CLOCK, ("ticks",), []))
        other.step(QUIET)
        self.assertEqual(signs(session), expected(CLOCK, ("ticks",), [TICK]))

    def test_all_steps_can_be_undone(self):
        session = gone(CLOCK, (), [TICK, QUIET])
        with session.trial():
            session.step(TICK)
            other = session.branch()
            self.assertEqual([other.undo(), other.undo(), other.undo()], [TICK, QUIET, TICK])
            with self.assertRaises(NothingDone):
                other.undo()
            again = session.branch()
        self.assertEqual(signs(again), expected(CLOCK, (), [TICK, QUIET, TICK]))
        self.assertEqual([again.undo(), again.undo(), again.undo()], [TICK, QUIET, TICK])
        self.assertEqual(signs(session), expected(CLOCK, (), [TICK, QUIET]))

    def test_a_trial_of_the_one_is_none_of_the_other(self):
        session = gone(CLOCK, (), [TICK])
        other = session.branch()
        with session.trial():
            other.step(QUIET)
            self.assertEqual([other.undo(), other.undo()], [QUIET, TICK])
            session.step(QUIET)
        self.assertEqual(signs(other), expected(CLOCK, (), []))
        self.assertEqual(signs(session), expected(CLOCK, (), [TICK]))

    def test_two_hundred_steps_with_a_branch(self):
        session = gone(CLOCK, (), [QUIET] * 200)
        other = session.branch()
        with self.assertRaises(BadWorlds):
            other.step(QUIET)
        session.undo()
        with self.assertRaises(BadWorlds):
            other.step(QUIET)


class Left(Exception):
    pass


class Trials(unittest.TestCase):
    def setUp(self):
        self.session = gone(TOLD, ("results",), [world(result=2), RING])
        self.before = signs(self.session)

    def assert_as_before(self):
        self.assertEqual(signs(self.session), self.before)
        # Also what can be undone is as before.
        other = self.session.branch()
        self.assertEqual([self.session.undo(), self.session.undo()], [RING, world(result=2)])
        with self.assertRaises(NothingDone):
            self.session.undo()
        for each, _, _ in other.journal:
            self.session.step(each)

    def test_it_gives_the_session(self):
        with self.session.trial() as inner:
            self.assertIs(inner, self.session)
            inner.step(RING)
            self.assertEqual(signs(self.session), expected(TOLD, ("results",), [world(result=2), RING, RING]))
        self.assert_as_before()

    def test_left_at_its_end(self):
        with self.session.trial():
            self.session.step(world(rings=True, result=1))
            self.assertEqual(len(self.session), 3)
        self.assert_as_before()

    def test_nothing_done_in_it(self):
        with self.session.trial():
            self.assertEqual(signs(self.session), self.before)
        self.assert_as_before()

    def test_left_by_an_error(self):
        for kind in (Left, ValueError, KeyboardInterrupt, GeneratorExit, StopIteration, NothingDone):
            with self.assertRaises(kind) as caught:
                with self.session.trial() as inner:
                    inner.step(RING)
                    error = kind("gone")
                    raise error
            self.assertIs(caught.exception, error)
            self.assert_as_before()

    def test_left_by_an_error_of_its_own(self):
        with self.assertRaises(BadWorlds):
            with self.session.trial() as inner:
                inner.step(RING)
                inner.step(TICK)
        self.assert_as_before()

    def test_left_by_return(self):
        def tell():
            with self.session.trial() as inner:
                return inner.step(QUIET)

        self.assertEqual(tell(), (2, None))
        self.assert_as_before()

    def test_left_by_break_and_continue(self):
        for _ in range(3):
            with self.session.trial() as inner:
                inner.step(QUIET)
                continue
        self.assert_as_before()
        while True:
            with self.session.trial() as inner:
                inner.step(QUIET)
                break
        self.assert_as_before()

    def test_steps_from_before_it_cannot_be_undone(self):
        with self.session.trial() as inner:
            with self.assertRaises(NothingDone):
                inner.undo()
            self.assertEqual(signs(inner), self.before)
            inner.step(RING)
            inner.step(QUIET)
            self.assertEqual([inner.undo(), inner.undo()], [QUIET, RING])
            with self.assertRaises(NothingDone):
                inner.undo()
            self.assertEqual(signs(inner), self.before)
            inner.step(RING)
        self.assert_as_before()

    def test_trials_within_one_another(self):
        with self.session.trial() as outer:
            outer.step(RING)
            between = signs(outer)
            with outer.trial() as inner:
                with self.assertRaises(NothingDone):
                    inner.undo()
                inner.step(QUIET)
                inner.step(QUIET)
                with inner.trial() as inmost:
                    inmost.step(RING)
                    self.assertEqual(inmost.undo(), RING)
                    with self.assertRaises(NothingDone):
                        inmost.undo()
                self.assertEqual(len(inner), 5)
                self.assertEqual(inner.undo(), QUIET)
            self.assertEqual(signs(outer), between)
            self.assertEqual(outer.undo(), RING)
            with self.assertRaises(NothingDone):
                outer.undo()
            outer.step(QUIET)
            with outer.trial() as inner:
                inner.step(RING)
            self.assertEqual(len(outer), 3)
        self.assert_as_before()

    def test_an_error_through_several_trials(self):
        with self.assertRaises(Left):
            with self.session.trial() as outer:
                outer.step(RING)
                with outer.trial() as inner:
                    inner.step(QUIET)
                    raise Left
        self.assert_as_before()
        with self.session.trial() as outer:
            outer.step(RING)
            between = signs(outer)
            with self.assertRaises(Left):
                with outer.trial() as inner:
                    inner.step(QUIET)
                    raise Left
            self.assertEqual(signs(outer), between)
            self.assertEqual(outer.undo(), RING)
        self.assert_as_before()

    def test_it_begins_with_its_block(self):
        trial = self.session.trial()
        self.session.step(QUIET)
        longer = signs(self.session)
        for _ in range(2):
            with trial as inner:
                inner.step(RING)
                self.assertEqual(len(inner), 4)
            self.assertEqual(signs(self.session), longer)
        self.assertEqual(self.session.undo(), QUIET)
        self.assert_as_before()

    def test_a_trial_that_is_not_begun_changes_nothing(self):
        self.session.trial()
        self.assert_as_before()

    def test_journal_in_a_trial_stays(self):
        with self.session.trial() as inner:
            inner.step(RING)
            kept = inner.journal, inner.notes, inner.machines()
        self.assertEqual([len(kept[0]), len(self.session.journal), kept[2][0].steps], [3, 2, 3])

    def test_two_hundred_steps_in_a_trial(self):
        with self.session.trial() as inner:
            for _ in range(198):
                inner.step(QUIET)
            with self.assertRaises(BadWorlds):
                inner.step(QUIET)
            self.assertEqual(len(inner), 200)
        self.assert_as_before()


class Tried(unittest.TestCase):
    def setUp(self):
        self.session = gone(TOLD, ("results",), [world(result=2), RING])
        self.before = signs(self.session)

    def assert_refused(self, worlds, index):
        with self.assertRaises(BadWorlds) as caught:
            self.session.tried(worlds)
        self.assertEqual(repr(caught.exception.index), repr(index))
        self.assertEqual(signs(self.session), self.before)
        self.assertEqual([self.session.branch().undo(), self.session.undo()], [RING, RING])
        self.session.step(RING)

    def test_pairs(self):
        worlds = [QUIET, RING, world(result=1)]
        other = self.session.branch()
        expected_pairs = [other.step(each) for each in worlds]
        for given in (worlds, tuple(worlds)):
            found = self.session.tried(given)
            self.assertIsInstance(found, list)
            self.assertEqual(repr(found), repr(expected_pairs))
            self.assertEqual(signs(self.session), self.before)
        self.assertEqual(worlds, [QUIET, RING, world(result=1)])
        found.clear()
        self.assertEqual(self.session.tried(worlds), expected_pairs)

    def test_nothing_to_try(self):
        self.assertEqual([self.session.tried([]), self.session.tried(())], [[], []])
        self.assertEqual(signs(self.session), self.before)

    def test_in_a_trial(self):
        with self.session.trial() as inner:
            inner.step(QUIET)
            between = signs(inner)
            inner.tried([RING, RING])
            self.assertEqual(signs(inner), between)
            self.assertEqual(inner.undo(), QUIET)
            with self.assertRaises(NothingDone):
                inner.undo()
        self.assertEqual(signs(self.session), self.before)

    def test_not_a_list_or_tuple(self):
        for value in [None, "", "rings", {}, {0: QUIET}, set(), object(), Sly(), True, 0, -1, 10 ** 5000, iter([])]:
            self.assert_refused(value, None)

    def test_a_wrong_world_at_each_place(self):
        for odd in [*WRONG, TICK, world(first=1)]:
            for at in range(4):
                worlds = [RING] * 4
                worlds[at] = odd
                self.assert_refused(worlds, at)
                self.assert_refused(tuple(worlds), at)
                self.assert_refused(worlds[:at + 1] + [None] * 3, at)

    def test_too_many(self):
        self.assertEqual(len(self.session.tried([QUIET] * 198)), 198)
        self.assertEqual(len(self.session.tried((QUIET,) * 198)), 198)
        for worlds in ([QUIET] * 199, (QUIET,) * 199, [None] * 199, [QUIET] * 200, [QUIET] * 5000):
            self.assert_refused(worlds, None)
        self.assert_refused([QUIET] * 197 + [None], 197)

    def test_at_two_hundred_steps(self):
        session = gone(CLOCK, (), [QUIET] * 200)
        self.assertEqual(session.tried([]), [])
        with self.assertRaises(BadWorlds) as caught:
            session.tried([QUIET])
        self.assertIsNone(caught.exception.index)


class Refused(unittest.TestCase):
    def test_not_a_scheme(self):
        for value in [*ODD, Scheme]:
            for kinds in ((), None):
                with self.assertRaises(BadScheme) as caught:
                    Session(value, kinds)
                self.assertIsNone(caught.exception.part)

    def test_not_a_set_of_kinds_that_can_happen(self):
        wrong = [each for each in ODD if not isinstance(each, tuple) or each != ()]
        wrong += [("ticks",), ("results", "rings"), ("rings", "rings"), ["rings"], ALL_KINDS, ("rings", 1), (Sly(),)]
        for kinds in wrong:
            with self.assertRaises(BadKinds):
                Session(TOLD, kinds)
        for kinds in [(), ("rings",), ("results",), ("rings", "results")]:
            Session(TOLD, kinds)

    def test_a_wrong_world_changes_nothing(self):
        session = gone(TOLD, ("results",), [world(result=2), RING])
        before = signs(session)
        for odd in [*WRONG, TICK, world(word=1), world(alarms=True), world(first=2)]:
            with self.assertRaises(BadWorlds) as caught:
                session.step(odd)
            self.assertIsNone(caught.exception.index)
            self.assertEqual(signs(session), before)
        session.step(QUIET)
        self.assertEqual(signs(session), expected(TOLD, ("results",), [world(result=2), RING, QUIET]))


class Walks(unittest.TestCase):
    """Sessions that do this and that, beside a list of worlds to which the same is done."""

    def walk(self, session, scheme, kinds, worlds, floor, depth):
        for _ in range(self.source.randint(3, 12)):
            doing = self.source.choice(["step", "step", "step", "undo", "branch", "trial", "tried"])
            if doing == "step":
                worlds.append(some_world(self.source, scheme.kinds))
                session.step(worlds[-1])
            elif doing == "undo" and len(worlds) > floor:
                self.assertEqual(session.undo(), worlds.pop())
            elif doing == "undo":
                with self.assertRaises(NothingDone):
                    session.undo()
            elif doing == "branch" and depth < 2:
                self.walk(session.branch(), scheme, kinds, list(worlds), 0, depth + 1)
            elif doing == "trial" and depth < 4:
                with session.trial() as inner:
                    self.walk(inner, scheme, kinds, list(worlds), len(worlds), depth + 1)
            elif doing == "tried":
                more = [some_world(self.source, scheme.kinds) for _ in range(3)]
                run = [*worlds, *more]
                both = list(zip(told_by(scheme, run), told_by(scheme, [with_only(each, kinds) for each in run])))
                self.assertEqual(session.tried(more), both[len(worlds):])
            self.assertEqual(signs(session), expected(scheme, kinds, worlds))

    def test_walks(self):
        self.source = random.Random(154)
        for _ in range(40):
            scheme = telling_scheme(self.source, ALL_KINDS)
            kinds = some_kinds(self.source, 0, 6)
            self.walk(Session(scheme, kinds), scheme, kinds, [], 0, 0)


if __name__ == "__main__":
    unittest.main()
