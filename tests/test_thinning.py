"""Tests of samerun.thinning: [12], and what [1] says of it."""

import itertools
import random
import unittest

from samerun.errors import BadChoice, BadScheme, BadWorlds, TooMany
from samerun.playing import Parts, notes
from samerun.schemes import ALL_KINDS, QUIET, Scheme
from samerun.thinning import Fewest, enough_choices, fewest, needed_notes, parting, single_notes
from tests.samples import ODD, Sly, scheme_of, some_kinds, some_world, telling_scheme, world
from tests.search import first_apart, told_by

TICKED = scheme_of("time; show", kinds=("ticks", "words"))


def singles(worlds):
    """Return the single notes of a run."""
    return [(step, ALL_KINDS[at], each[at]) for step, each in enumerate(worlds) for at in range(6)
            if each[at] != QUIET[at]]


def choices(many):
    """Return all choices of so many single notes, in order."""
    found = [tuple(at for at in range(many) if bits >> at & 1) for bits in range(2 ** many)]
    return sorted(found, key=lambda each: (len(each), each))


def only(worlds, choice):
    """Return the worlds of the player that has exactly these single notes of a run."""
    found = [list(QUIET) for _ in worlds]
    for at in choice:
        step, kind, part = singles(worlds)[at]
        found[step][ALL_KINDS.index(kind)] = part
    return [tuple(each) for each in found]


class Trial:
    """All that [12] says of a run, from a trial of all choices."""

    def __init__(self, scheme, worlds):
        self.many = len(singles(worlds))
        there = told_by(scheme, worlds)
        self.parts = {choice: first_apart(there, told_by(scheme, only(worlds, choice)))
                      for choice in choices(self.many)}
        self.enough = [choice for choice in self.parts if self.parts[choice] is None]
        self.needed = [at for at in range(self.many) if all(at in choice for choice in self.enough)]
        self.shorter = [choice for choice in self.parts if len(choice) < len(self.enough[0])]


def triple(parts):
    return None if parts is None else (parts.index, parts.there, parts.here)


class OneRun(unittest.TestCase):
    def assert_run(self, scheme, worlds):
        trial = Trial(scheme, worlds)
        for given in (list(worlds), tuple(worlds)):
            self.assertEqual(repr(single_notes(scheme, given)), repr(singles(worlds)))
            self.assertEqual(repr(enough_choices(scheme, given)), repr(trial.enough))
            self.assertEqual(repr(needed_notes(scheme, given)), repr(trial.needed))
            found = fewest(scheme, given)
            self.assertIsInstance(found, Fewest)
            self.assertEqual(repr(found.chosen), repr(trial.enough[0]))
            self.assertEqual(list(found.doubts), trial.shorter)
            for choice, parts in found.doubts.items():
                self.assertIsInstance(parts, Parts)
                self.assertEqual(repr(triple(parts)), repr(trial.parts[choice]))
            self.assertIs(found.shows(scheme, given), True)
        for choice, expected in trial.parts.items():
            found = parting(scheme, worlds, choice)
            self.assertIn(type(found), (Parts, type(None)))
            self.assertEqual(repr(triple(found)), repr(expected))
        return trial

    def test_each_number_of_single_notes(self):
        source = random.Random(41)
        for many in range(9):
            for _ in range(5 if many > 5 else 12):
                scheme = telling_scheme(source, some_kinds(source, 2, 6))
                worlds = [[*QUIET] for _ in range(source.randint(max(many, 1), 12))]
                while len(singles(worlds)) < many:
                    at = source.choice([at for at, kind in enumerate(ALL_KINDS) if kind in scheme.kinds])
                    source.choice(worlds)[at] = True if at < 3 else source.choice([1, 2])
                trial = self.assert_run(scheme, [tuple(each) for each in worlds])
                self.assertEqual(trial.many, many)

    def test_short_runs(self):
        source, harmful = random.Random(42), 0
        for _ in range(300):
            scheme = telling_scheme(source, some_kinds(source, 1, 4))
            worlds = []
            while len(worlds) < 6 and len(singles(worlds)) < 5:
                worlds.append(some_world(source, scheme.kinds))
            if len(singles(worlds)) > 6:
                continue
            trial = self.assert_run(scheme, worlds)
            parted = [choice for choice in trial.parts if trial.parts[choice] is not None]
            harmful += any(set(one) < set(other) for one in trial.enough for other in parted)
        self.assertGreater(harmful, 0)

    def test_the_empty_run(self):
        for worlds in ([], (), [QUIET], [QUIET] * 200):
            scheme = scheme_of("time; show")
            self.assertEqual(single_notes(scheme, worlds), [])
            self.assertEqual(enough_choices(scheme, worlds), [()])
            self.assertEqual(needed_notes(scheme, worlds), [])
            self.assertEqual((fewest(scheme, worlds).chosen, fewest(scheme, worlds).doubts), ((), {}))
            self.assertIsNone(parting(scheme, worlds, ()))

    def test_single_notes_of_any_number(self):
        scheme = scheme_of("show")
        full = world(rings=True, alarms=True, ticks=True, word=2, result=1, first=2)
        expected = [(0, "rings", True), (0, "alarms", True), (0, "ticks", True), (0, "words", 2), (0, "results", 1),
                    (0, "firsts", 2), (2, "words", 1)]
        self.assertEqual(repr(single_notes(scheme, [full, QUIET, world(word=1)])), repr(expected))
        self.assertEqual(len(single_notes(scheme, [full] * 200)), 1200)
        pairs = [(step, *pair) for step, each in notes(scheme, [full] * 3, ALL_KINDS).items() for pair in each]
        self.assertEqual(repr(single_notes(scheme, [full] * 3)), repr(pairs))

    def test_results_that_no_instruction_asks_for(self):
        scheme, worlds = scheme_of("time; show"), [world(result=2, first=1), world(first=2)]
        self.assertEqual(single_notes(scheme, worlds), [(0, "results", 2), (0, "firsts", 1), (1, "firsts", 2)])
        self.assertEqual(enough_choices(scheme, worlds), choices(3))
        self.assert_run(scheme, worlds)

    def test_eight_and_nine(self):
        for many in (7, 8):
            for worlds in ([world(ticks=True)] * many, [QUIET] * 150 + [world(word=1)] * many):
                self.assertEqual(len(enough_choices(scheme_of("set 0"), worlds)), 2 ** many)
                self.assertIsNone(parting(TICKED, worlds, tuple(range(many))))
                self.assertIs(fewest(TICKED, worlds).shows(TICKED, worlds), True)
        worlds = [world(ticks=True)] * 9
        self.assertEqual(len(single_notes(TICKED, worlds)), 9)
        self.assert_run(TICKED, [world(ticks=True, word=1)] * 4)

    def test_a_choice_that_is_enough_and_not_with_a_note_more(self):
        scheme = scheme_of("set 0; set 0; set 0; time; show", kinds=("ticks",))
        trial = self.assert_run(scheme, [world(ticks=True)] * 3 + [QUIET, QUIET])
        self.assertEqual(trial.enough, [(), (0, 1, 2)])
        self.assertEqual(trial.parts[(0,)], (4, 0, 1))
        self.assertEqual(trial.needed, [])

    def test_answers_are_new_and_worlds_stay(self):
        worlds = [world(ticks=True), QUIET]
        for call in [single_notes, enough_choices, needed_notes]:
            expected = call(TICKED, worlds)
            self.assertIsInstance(expected, list)
            call(TICKED, worlds).append(0)
            self.assertEqual(call(TICKED, worlds), expected)
        fewest(TICKED, worlds).doubts.clear()
        fewest(TICKED, worlds).doubts[()].index = 9
        self.assertEqual(triple(fewest(TICKED, worlds).doubts[()]), (1, 1, 0))
        parting(TICKED, worlds, ()).index = 9
        self.assertEqual(triple(parting(TICKED, worlds, ())), (1, 1, 0))
        self.assertEqual(worlds, [world(ticks=True), QUIET])


class ShownFewest(unittest.TestCase):
    def setUp(self):
        self.scheme = TICKED
        self.worlds = [world(ticks=True), QUIET, world(ticks=True, word=1), QUIET]
        found = fewest(self.scheme, self.worlds)
        self.chosen, self.doubts = found.chosen, found.doubts

    def shows(self, chosen=None, doubts=None):
        chosen = self.chosen if chosen is None else chosen
        return Fewest(chosen, self.doubts if doubts is None else doubts).shows(self.scheme, self.worlds)

    def test_the_answer(self):
        self.assertEqual(single_notes(self.scheme, self.worlds), [(0, "ticks", True), (2, "ticks", True),
                                                                   (2, "words", 1)])
        self.assertEqual(self.chosen, (0, 1))
        self.assertEqual({choice: triple(parts) for choice, parts in self.doubts.items()},
                         {(): (1, 1, 0), (0,): (3, 2, 1), (1,): (1, 1, 0), (2,): (1, 1, 0)})
        self.assertIs(self.shows(), True)

    def test_doubts_in_any_order(self):
        turned = {choice: self.doubts[choice] for choice in reversed(list(self.doubts))}
        self.assertIs(self.shows(doubts=turned), True)

    def test_another_shortest_choice(self):
        scheme = scheme_of("call; show", "set 1; show", kinds=("rings", "results"))
        worlds = [world(rings=True, result=1), world(result=2)]
        found = fewest(scheme, worlds)
        self.assertEqual((found.chosen, [*found.doubts]), ((0,), [()]))
        self.assertIs(Fewest((1,), found.doubts).shows(scheme, worlds), True)
        self.assertIs(Fewest((2,), found.doubts).shows(scheme, worlds), False)
        self.assertIs(Fewest((0, 2), found.doubts).shows(scheme, worlds), False)
        self.assertIs(Fewest((), {}).shows(scheme, worlds), False)
        self.assertIs(Fewest((), found.doubts).shows(scheme, worlds), False)

    def test_longer_and_shorter_choices(self):
        for chosen in choices(3):
            self.assertIs(self.shows(chosen=chosen), chosen == (0, 1))
        more = {**self.doubts, **{choice: parting(self.scheme, self.worlds, choice) for choice in [(0, 2), (1, 2)]}}
        self.assertIs(self.shows(chosen=(0, 1, 2), doubts=more), False)
        self.assertIs(self.shows(doubts=more), False)

    def test_a_doubt_left_out(self):
        for choice in self.doubts:
            doubts = {each: self.doubts[each] for each in self.doubts if each != choice}
            self.assertIs(self.shows(doubts=doubts), False)
        self.assertIs(self.shows(doubts={}), False)

    def test_a_doubt_too_many(self):
        for choice in choices(4):
            if choice not in self.doubts:
                for parts in [Parts(1, 1, 0), Parts(3, 2, 1)]:
                    self.assertIs(self.shows(doubts={**self.doubts, choice: parts}), False)

    def test_a_doubt_changed_in_each_part(self):
        for choice in self.doubts:
            index, there, here = triple(self.doubts[choice])
            changed = [(at, there, here) for at in (0, 1, 2, 3, 4, None) if at != index]
            changed += [(index, number, here) for number in (0, 1, 2, None) if number != there]
            changed += [(index, there, number) for number in (0, 1, 2, None) if number != here]
            changed += [(index, there, bool(here)), (index, bool(there), here)]
            for each in changed:
                self.assertIs(self.shows(doubts={**self.doubts, choice: Parts(*each)}), False, each)

    def test_changed_attributes(self):
        found = fewest(self.scheme, self.worlds)
        found.chosen = (0, 1, 2)
        self.assertIs(found.shows(self.scheme, self.worlds), False)
        found.chosen = (0, 1)
        self.assertIs(found.shows(self.scheme, self.worlds), True)
        found.doubts[()].here = 2
        self.assertIs(found.shows(self.scheme, self.worlds), False)
        found.doubts[()].here = 0
        self.assertIs(found.shows(self.scheme, self.worlds), True)
        del found.doubts[()]
        self.assertIs(found.shows(self.scheme, self.worlds), False)
        found.doubts = {**self.doubts}
        self.assertIs(found.shows(self.scheme, self.worlds), True)

    def test_the_dict_is_copied(self):
        doubts = {choice: Parts(*triple(parts)) for choice, parts in self.doubts.items()}
        found = Fewest(self.chosen, doubts)
        doubts[()].index = 7
        doubts.clear()
        self.assertEqual(found.doubts, self.doubts)
        found.doubts[(0, 1)] = Parts(0, 0, 1)
        self.assertEqual(doubts, {})

    def test_equality(self):
        def make(chosen=self.chosen, doubts=self.doubts):
            return Fewest(chosen, doubts)
        self.assertTrue(make() == make())
        self.assertFalse(make() != make())
        self.assertTrue(make() == make(doubts={choice: self.doubts[choice] for choice in reversed([*self.doubts])}))
        self.assertFalse(make() == make(chosen=(0,)))
        self.assertFalse(make() == make(chosen=(False, True)))
        self.assertFalse(make() == make(doubts={}))
        self.assertTrue(make() != make(doubts={**self.doubts, (): Parts(1, 1, 2)}))
        self.assertFalse(make() == make(doubts={**self.doubts, (): Parts(True, 1, 0)}))
        self.assertFalse(make() == make(doubts={**self.doubts, (0, 1): Parts(1, 1, 0)}))
        one, other = Parts(1, 1, 0), Parts(1, 1, 0)
        self.assertFalse(make(doubts={(0,): one}) == make(doubts={(False,): other}))
        self.assertFalse(make(doubts={(0,): one}) == make(doubts={(1,): other}))


class Refused(unittest.TestCase):
    FEW = [enough_choices, needed_notes, fewest, Fewest((), {}).shows]

    def calls(self, choice=()):
        return [*self.FEW, lambda scheme, worlds: parting(scheme, worlds, choice)]

    def test_not_a_scheme(self):
        for value in [*ODD, Scheme]:
            for worlds in [[], None, [QUIET] * 201, [world(ticks=True)] * 9]:
                for call in [single_notes, *self.calls(), *self.calls(None)]:
                    with self.assertRaises(BadScheme) as caught:
                        call(value, worlds)
                    self.assertIsNone(caught.exception.part)

    def test_wrong_worlds(self):
        cases = [([QUIET] * 201, None), ({}, None), ("", None), (None, None), ([world(ticks=True)] * 201, None)]
        cases += [([world(ticks=True)] * 10 + [None], 10), ((QUIET, list(QUIET)), 1), ([world(result=1)], 0)]
        for worlds, index in cases:
            for call in [single_notes, *self.calls(), *self.calls(None)]:
                with self.assertRaises(BadWorlds) as caught:
                    call(TICKED, worlds)
                self.assertEqual(repr(caught.exception.index), repr(index))

    def test_too_many_single_notes(self):
        for worlds in [[world(ticks=True)] * 9, [world(ticks=True, word=1)] * 5, [world(word=2)] * 200]:
            for choice in [(), (0,), None, (99,)]:
                for call in self.calls(choice):
                    with self.assertRaises(TooMany):
                        call(TICKED, worlds)

    def test_what_is_no_choice(self):
        worlds = [world(ticks=True)] * 3
        wrong = [(3,), (0, 3), (-1,), (-1, 0), (True,), (False,), (0, True), (1, 0), (0, 0), (0, 1, 1), (2, 1, 0), [0],
                 [], (None,), ("0",), ((0,),), {0: 1}, {}, {0}, range(2), "", "0", 0, 1, None, (Sly(),), (10 ** 5000,),
                 (0, 2, 1), (0, 1, 2, 3), (0, [])]
        for choice in [*wrong, *[each for each in ODD if each not in [(), (1,)] or isinstance(each, Sly)]]:
            with self.assertRaises(BadChoice):
                parting(TICKED, worlds, choice)
        for choice in choices(3):
            parting(TICKED, worlds, choice)
        for choice in [(0,), (1,), None, [()]]:
            with self.assertRaises(BadChoice):
                parting(TICKED, [], choice)

    def test_each_choice_of_eight(self):
        worlds = [world(ticks=True)] * 8
        for choice in itertools.chain.from_iterable(itertools.combinations(range(8), many) for many in range(9)):
            self.assertIn(type(parting(TICKED, worlds, choice)), (Parts, type(None)))
            if len(choice) > 1:
                with self.assertRaises(BadChoice):
                    parting(TICKED, worlds, choice[::-1])


if __name__ == "__main__":
    unittest.main()
