"""Tests of samerun.choosing: [10] and [11], and what [1] says of them."""

import random
import unittest

from samerun.choosing import Matter, Smallest, enough_sets, harms, least_sets, matter, needed, smallest
from samerun.deciding import Always, Sometimes, decide, is_enough
from samerun.errors import BadScheme, BadWorlds
from samerun.playing import compare
from samerun.schemes import ALL_KINDS, QUIET, Scheme
from tests.samples import (
    ODD, scheme_of, some_code, some_kinds, some_scheme, some_world, telling_scheme, world,
)
from tests.search import Search, apart, subsets
from tests.test_deciding import SMALL, Checked

FULL = world(rings=True, alarms=True, ticks=True, word=1, result=2, first=1)

# The tick that the other thread shows, and a result that nobody asks for in the run, are the same number.
UNLIKE = (
    scheme_of("call; show", "time; show", kinds=("rings", "ticks", "results")),
    [world(rings=True, ticks=True, result=1), world(result=2), world(result=1)],
)
# The ring leads to the instruction `show`, and so does the alarm.
TIE = (
    scheme_of("open", "show", handler="show", kinds=("rings", "alarms", "firsts")),
    [world(rings=True, alarms=True, first=2)],
)


class Mattering(Checked):
    def assert_matter(self, scheme, chosen):
        search, found = Search(scheme), matter(scheme)
        self.assertIsInstance(found, Matter)
        self.assertEqual(found.chosen, chosen)
        self.assert_pairs(search, chosen, found.pairs)
        self.assertIsInstance(found.doubts, dict)
        self.assertEqual(list(found.doubts), list(chosen))
        for kind, worlds in found.doubts.items():
            self.assert_worlds(scheme, tuple(each for each in chosen if each != kind), worlds)
        self.assertIs(found.shows(scheme), True)

    def test_small_programs(self):
        for scheme, chosen in SMALL:
            self.assert_matter(scheme, chosen)

    def test_none_one_several_and_all(self):
        few, loud = ("rings", "alarms", "ticks"), ("rings", "alarms", "ticks", "results")
        cases = [
            ((), scheme_of("set 1; show")), ((), scheme_of("time; set 1; show", kinds=loud)),
            (("results",), scheme_of("call; show", kinds=loud)), (("alarms",), scheme_of("show", handler="set 1")),
            (("words",), scheme_of("spilt; show", kinds=("alarms", "words", "firsts"))),
            (("rings",), scheme_of("set 1", "show", kinds=loud)),
            (("rings", "ticks"), scheme_of("time; show", "set 0", kinds=few)),
            (loud, scheme_of("call; show", "show", handler="time; show", kinds=loud)),
        ]
        for chosen, scheme in cases:
            self.assert_matter(scheme, chosen)

    def test_each_enough_set_contains_the_chosen_one(self):
        source = random.Random(21)
        seen = set()
        for at in range(40):
            threads = tuple(some_code(source, 1, 3) for _ in range(at % 3 + 1))
            kinds = some_kinds(source, 0, 3)
            scheme = Scheme(threads, handler=some_code(source, 0, 2), kinds=kinds)
            search = Search(scheme)
            answers = {chosen: search.answer(chosen, 400) for chosen in subsets(kinds)}
            if None in answers.values():
                continue
            chosen = matter(scheme).chosen
            self.assert_matter(scheme, chosen)
            seen.add(len(chosen))
            for kinds, answer in answers.items():
                self.assertIs(answer > 0, set(chosen) <= set(kinds))
                self.assertIs(is_enough(scheme, kinds), answer > 0)
        self.assertLessEqual({0, 1, 2}, seen)

    def test_every_answer_is_new(self):
        scheme = scheme_of("time; show", kinds=("ticks",))
        found = matter(scheme)
        found.pairs.clear()
        found.doubts.clear()
        self.assertIs(matter(scheme).shows(scheme), True)


class ShownMatter(unittest.TestCase):
    def setUp(self):
        self.scheme = scheme_of("call; show", "set 0; show", kinds=("rings", "words", "results"))
        found = matter(self.scheme)
        self.chosen, self.pairs, self.doubts = found.chosen, found.pairs, found.doubts

    def shows(self, chosen=None, pairs=None, doubts=None):
        chosen = self.chosen if chosen is None else chosen
        pairs = self.pairs if pairs is None else pairs
        return Matter(chosen, pairs, self.doubts if doubts is None else doubts).shows(self.scheme)

    def test_the_answer(self):
        self.assertEqual(self.chosen, ("rings", "results"))
        self.assertIs(self.shows(), True)

    def test_doubts_in_any_order(self):
        turned = {kind: self.doubts[kind] for kind in reversed(self.chosen)}
        self.assertEqual(list(turned), ["results", "rings"])
        self.assertIs(self.shows(doubts=turned), True)

    def test_a_kind_too_many(self):
        every = self.scheme.kinds
        pairs = decide(self.scheme, every).pairs
        self.assertIs(Always(pairs).shows(self.scheme, every), True)
        self.assertIs(self.shows(chosen=every, pairs=pairs), False)
        for worlds in [(), (QUIET,), *self.doubts.values()]:
            doubts = {**self.doubts, "words": worlds}
            self.assertIs(self.shows(chosen=every, pairs=pairs, doubts=doubts), False)

    def test_a_kind_too_few(self):
        for kind in self.chosen:
            fewer = tuple(each for each in self.chosen if each != kind)
            doubts = {each: decide(self.scheme, ()).worlds for each in fewer}
            self.assertIs(self.shows(chosen=fewer, doubts=doubts), False)
        self.assertIs(self.shows(chosen=(), doubts={}), False)

    def test_a_doubt_left_out(self):
        for kind in self.chosen:
            self.assertIs(self.shows(doubts={each: self.doubts[each] for each in self.chosen if each != kind}), False)
        self.assertIs(self.shows(doubts={}), False)

    def test_a_doubt_for_a_kind_that_is_not_chosen(self):
        for worlds in [(), (QUIET,), *self.doubts.values()]:
            for kind in ["words", "ticks"]:
                self.assertIs(self.shows(doubts={**self.doubts, kind: worlds}), False)
                self.assertIs(self.shows(doubts={"rings": self.doubts["rings"], kind: worlds}), False)

    def test_doubts_that_do_not_part_at_their_last_step(self):
        for kind in self.chosen:
            right = self.doubts[kind]
            for worlds in [(), (QUIET,), right + (QUIET,), right[:-1], (QUIET,) * 6]:
                self.assertIs(self.shows(doubts={**self.doubts, kind: worlds}), False)
        swapped = {"rings": self.doubts["results"], "results": self.doubts["rings"]}
        self.assertIs(self.shows(doubts=swapped), False)

    def test_other_worlds_will_do(self):
        worlds = (world(result=1, word=2), world(word=1))
        self.assertIs(Sometimes(worlds).shows(self.scheme, ("rings",)), True)
        self.assertIs(self.shows(doubts={**self.doubts, "results": worlds}), True)

    def test_pairs_that_are_not_closed(self):
        for at in range(len(self.pairs)):
            self.assertIs(self.shows(pairs=self.pairs[:at] + self.pairs[at + 1:]), False)
        self.assertIs(self.shows(pairs=[]), False)
        self.assertIs(self.shows(pairs=self.pairs[::-1] + self.pairs[:2]), True)
        self.assertIs(self.shows(pairs=decide(self.scheme, self.scheme.kinds).pairs), False)

    def test_changed_attributes(self):
        found = matter(self.scheme)
        found.chosen = self.scheme.kinds
        self.assertIs(found.shows(self.scheme), False)
        found = matter(self.scheme)
        found.pairs.pop()
        self.assertIs(found.shows(self.scheme), False)
        found = matter(self.scheme)
        del found.doubts["rings"]
        self.assertIs(found.shows(self.scheme), False)
        found.doubts["rings"] = self.doubts["rings"]
        self.assertIs(found.shows(self.scheme), True)
        found.doubts = {}
        self.assertIs(found.shows(self.scheme), False)

    def test_list_and_dict_are_copied(self):
        pairs, doubts = list(self.pairs), dict(self.doubts)
        found = Matter(self.chosen, pairs, doubts)
        pairs.clear()
        doubts.clear()
        self.assertEqual(found.pairs, self.pairs)
        self.assertEqual(found.doubts, self.doubts)
        found.pairs.clear()
        found.doubts["ticks"] = ()
        self.assertEqual((pairs, doubts), ([], {}))

    def test_equality(self):
        def make(chosen=self.chosen, pairs=self.pairs, doubts=self.doubts):
            return Matter(chosen, pairs, doubts)
        self.assertTrue(make() == make())
        self.assertFalse(make() != make())
        self.assertTrue(make() == make(doubts={kind: self.doubts[kind] for kind in reversed(self.chosen)}))
        self.assertFalse(make() == make(chosen=("rings",)))
        self.assertFalse(make() == make(pairs=self.pairs[:-1]))
        self.assertFalse(make() == make(pairs=self.pairs[::-1]))
        self.assertFalse(make() == make(doubts={}))
        self.assertTrue(make() != make(doubts={**self.doubts, "rings": ()}))
        self.assertFalse(make() == make(doubts={**self.doubts, "words": ()}))
        self.assertFalse(make(doubts={"rings": (QUIET,)}) == make(doubts={"rings": ((0,) + QUIET[1:],)}))

    def test_not_a_scheme(self):
        for value in [*ODD, Scheme]:
            for call in [matter, matter(self.scheme).shows, Matter((), [], {}).shows]:
                with self.assertRaises(BadScheme) as caught:
                    call(value)
                self.assertIsNone(caught.exception.part)


class Trial:
    """All that [11] says of a run, from a trial of all sets."""

    def __init__(self, scheme, worlds):
        sets = subsets(scheme.kinds)
        self.parts = {kinds: apart(scheme, worlds, kinds) for kinds in sets}
        self.enough = [kinds for kinds in sets if self.parts[kinds] is None]
        self.least = [kinds for kinds in self.enough if not any(set(each) < set(kinds) for each in self.enough)]
        self.needed = [kind for kind in scheme.kinds if all(kind in kinds for kinds in self.enough)]
        self.harms = []
        for kinds in self.enough:
            for kind in scheme.kinds:
                more = [each for each in scheme.kinds if each in kinds or each == kind]
                if kind not in kinds and self.parts[tuple(more)] is not None:
                    self.harms.append((kinds, kind))
        self.sizes = {kinds: self.size(worlds, kinds) for kinds in sets}
        self.smallest = sorted(self.enough, key=lambda kinds: self.sizes[kinds])[0]
        self.doubts = {kinds: self.parts[kinds] for kinds in sets if self.sizes[kinds] < self.sizes[self.smallest]}

    def size(self, worlds, kinds):
        return sum(each[at] != QUIET[at] for each in worlds for at in range(6) if ALL_KINDS[at] in kinds)


class OneRun(unittest.TestCase):
    def assert_run(self, scheme, worlds):
        trial = Trial(scheme, worlds)
        for given in (list(worlds), tuple(worlds)):
            self.assertEqual(repr(enough_sets(scheme, given)), repr(trial.enough))
            self.assertEqual(repr(least_sets(scheme, given)), repr(trial.least))
            self.assertEqual(repr(needed(scheme, given)), repr(trial.needed))
            self.assertEqual(repr(harms(scheme, given)), repr(trial.harms))
            found = smallest(scheme, given)
            self.assertIsInstance(found, Smallest)
            self.assertEqual(found.chosen, trial.smallest)
            self.assertEqual(repr(found.doubts), repr(trial.doubts))
            self.assertIs(found.shows(scheme, given), True)
        return trial

    def test_the_empty_run(self):
        for kinds in subsets(ALL_KINDS)[::5]:
            scheme = scheme_of("show", kinds=kinds)
            trial = self.assert_run(scheme, [])
            self.assertEqual(trial.enough, subsets(kinds))
            self.assertEqual(least_sets(scheme, []), [()])
            self.assertEqual((needed(scheme, []), harms(scheme, [])), ([], []))
            self.assertEqual((smallest(scheme, []).chosen, smallest(scheme, []).doubts), ((), {}))

    def test_the_order_of_the_sets(self):
        found = enough_sets(scheme_of("set 0"), [FULL])
        self.assertEqual(len(found), 64)
        self.assertEqual(found, subsets(ALL_KINDS))
        self.assertEqual(found[:3], [(), ("rings",), ("alarms",)])
        self.assertEqual(found[7:9], [("rings", "alarms"), ("rings", "ticks")])
        found = enough_sets(scheme_of("set 0", kinds=("alarms", "words")), [])
        self.assertEqual(found, [(), ("alarms",), ("words",), ("alarms", "words")])

    def test_runs_of_a_random_source(self):
        source, harmed, several = random.Random(31), 0, 0
        for _ in range(250):
            scheme = telling_scheme(source, some_kinds(source, 2, 5))
            worlds = [some_world(source, scheme.kinds) for _ in range(source.randint(1, 7))]
            trial = self.assert_run(scheme, worlds)
            harmed += len(trial.harms) > 0
            several += len(trial.least) > 1
        self.assertGreater(min(harmed, several), 0)

    def test_other_programs(self):
        source = random.Random(32)
        for _ in range(40):
            scheme = some_scheme(source)
            self.assert_run(scheme, [some_world(source, scheme.kinds) for _ in range(source.randint(0, 14))])

    def test_a_larger_set_may_not_be_enough(self):
        scheme = scheme_of("call; show", "set 0; show", kinds=("rings", "results"))
        worlds = [world(rings=True, result=2), QUIET]
        self.assertEqual(enough_sets(scheme, worlds), [(), ("rings",), ("rings", "results")])
        self.assertEqual(least_sets(scheme, worlds), [()])
        self.assertEqual(needed(scheme, worlds), [])
        self.assertEqual(harms(scheme, worlds), [((), "results")])
        self.assert_run(scheme, worlds)

    def test_two_least_sets_of_unlike_sizes(self):
        scheme, worlds = UNLIKE
        trial = self.assert_run(scheme, worlds)
        self.assertEqual(trial.least, [("results",), ("rings", "ticks")])

    def test_the_smallest_notes_need_not_have_the_fewest_kinds(self):
        scheme, worlds = UNLIKE
        self.assertEqual(enough_sets(scheme, worlds)[0], ("results",))
        self.assertEqual(smallest(scheme, worlds).chosen, ("rings", "ticks"))

    def test_needed_kinds_of_a_scheme_without_kinds(self):
        scheme = scheme_of("show", kinds=())
        self.assertEqual((enough_sets(scheme, [QUIET]), needed(scheme, [QUIET])), ([()], []))
        self.assertEqual((least_sets(scheme, [QUIET]), harms(scheme, [QUIET])), ([()], []))

    def test_long_runs(self):
        scheme = scheme_of("time; show; take; show", "call; show", handler="first 0; set 1")
        source = random.Random(33)
        self.assert_run(scheme, [some_world(source) for _ in range(200)])
        self.assert_run(scheme_of("set 0"), [FULL] * 200)

    def test_lists_are_new_and_worlds_stay(self):
        scheme, worlds = scheme_of("time; show"), [world(ticks=True), QUIET]
        for call in [enough_sets, least_sets, needed, harms]:
            expected = call(scheme, worlds)
            self.assertIsInstance(expected, list)
            call(scheme, worlds).append(0)
            self.assertEqual(call(scheme, worlds), expected)
        expected = repr(smallest(scheme, worlds).doubts)
        smallest(scheme, worlds).doubts.clear()
        self.assertEqual(repr(smallest(scheme, worlds).doubts), expected)
        self.assertEqual(worlds, [world(ticks=True), QUIET])


class ShownSmallest(unittest.TestCase):
    def setUp(self):
        self.scheme, self.worlds = UNLIKE
        found = smallest(self.scheme, self.worlds)
        self.chosen, self.doubts = found.chosen, found.doubts

    def shows(self, chosen=None, doubts=None):
        chosen = self.chosen if chosen is None else chosen
        return Smallest(chosen, self.doubts if doubts is None else doubts).shows(self.scheme, self.worlds)

    def test_the_answer(self):
        self.assertEqual(self.chosen, ("rings", "ticks"))
        self.assertEqual(repr(self.doubts), repr({(): (1, 1, 0), ("rings",): (1, 1, 0), ("ticks",): (1, 1, 0)}))
        self.assertIs(self.shows(), True)

    def test_doubts_in_any_order(self):
        turned = {kinds: self.doubts[kinds] for kinds in reversed(list(self.doubts))}
        self.assertIs(self.shows(doubts=turned), True)

    def test_a_set_with_larger_notes(self):
        for chosen in enough_sets(self.scheme, self.worlds):
            self.assertIs(self.shows(chosen=chosen), chosen == self.chosen)
        doubts = {**self.doubts, ("rings", "ticks"): (1, 1, 0)}
        self.assertIs(self.shows(chosen=("results",), doubts=doubts), False)

    def test_a_set_that_is_not_enough(self):
        for chosen in [(), ("rings",), ("ticks",), ("rings", "results")]:
            self.assertIs(self.shows(chosen=chosen), False)
            fewer = {kinds: self.doubts[kinds] for kinds in self.doubts if len(kinds) < len(chosen)}
            self.assertIs(self.shows(chosen=chosen, doubts=fewer), False)

    def test_another_set_of_the_least_size(self):
        scheme, worlds = TIE
        found = smallest(scheme, worlds)
        self.assertEqual(found.chosen, ("rings",))
        self.assertEqual(repr(found.doubts), repr({(): (0, 0, None)}))
        self.assertIs(Smallest(("alarms",), {(): (0, 0, None)}).shows(scheme, worlds), True)
        self.assertIs(Smallest(("firsts",), {(): (0, 0, None)}).shows(scheme, worlds), False)
        self.assertIs(Smallest(("rings", "alarms"), {(): (0, 0, None)}).shows(scheme, worlds), False)
        # A kind of which the run has nothing adds nothing to the notes.
        scheme, worlds = scheme_of("set 0", kinds=("rings", "ticks")), [QUIET, world(ticks=True)]
        self.assertEqual(smallest(scheme, worlds).chosen, ())
        self.assertIs(Smallest(("rings",), {}).shows(scheme, worlds), True)
        self.assertIs(Smallest(("ticks",), {}).shows(scheme, worlds), False)

    def test_a_doubt_left_out(self):
        for kinds in self.doubts:
            doubts = {each: self.doubts[each] for each in self.doubts if each != kinds}
            self.assertIs(self.shows(doubts=doubts), False)
        self.assertIs(self.shows(doubts={}), False)

    def test_a_doubt_too_many(self):
        for kinds in subsets(self.scheme.kinds):
            if kinds not in self.doubts:
                for triple in [(1, 1, 0), compare(self.scheme, self.worlds, kinds)]:
                    triple = triple if isinstance(triple, tuple) else (0, None, None)
                    self.assertIs(self.shows(doubts={**self.doubts, kinds: triple}), False)
        # The notes of this set have the least size, too, but are not smaller.
        scheme, worlds = TIE
        for kinds in [("alarms",), ("firsts",)]:
            found = Smallest(("rings",), {(): (0, 0, None), kinds: (0, 0, None)})
            self.assertIs(found.shows(scheme, worlds), False)

    def test_a_doubt_changed_in_each_part(self):
        for kinds in self.doubts:
            for triple in [(0, 1, 0), (2, 1, 0), (1, 0, 0), (1, 2, 0), (1, None, 0), (1, 1, 1), (1, 1, 2), (1, 1, None),
                           (1, 0, 1), (True, 1, 0), (1, True, 0), (1, 1, False)]:
                self.assertIs(self.shows(doubts={**self.doubts, kinds: triple}), False, triple)

    def test_changed_attributes(self):
        found = smallest(self.scheme, self.worlds)
        found.chosen = ("results",)
        self.assertIs(found.shows(self.scheme, self.worlds), False)
        found.chosen = ("rings", "ticks")
        self.assertIs(found.shows(self.scheme, self.worlds), True)
        del found.doubts[()]
        self.assertIs(found.shows(self.scheme, self.worlds), False)
        found.doubts = dict(self.doubts)
        self.assertIs(found.shows(self.scheme, self.worlds), True)

    def test_another_run(self):
        found = Smallest(self.chosen, self.doubts)
        self.assertIs(found.shows(self.scheme, self.worlds[:1]), False)
        self.assertIs(found.shows(self.scheme, []), False)
        self.assertIs(found.shows(self.scheme, self.worlds[:2]), True)
        self.assertIs(found.shows(self.scheme, tuple(self.worlds)), True)

    def test_the_dict_is_copied(self):
        doubts = dict(self.doubts)
        found = Smallest(self.chosen, doubts)
        doubts.clear()
        self.assertEqual(found.doubts, self.doubts)
        found.doubts[("results",)] = (0, 0, 0)
        self.assertEqual(doubts, {})

    def test_equality(self):
        def make(chosen=self.chosen, doubts=self.doubts):
            return Smallest(chosen, doubts)
        self.assertTrue(make() == make())
        self.assertFalse(make() != make())
        self.assertTrue(make() == make(doubts={kinds: self.doubts[kinds] for kinds in reversed(list(self.doubts))}))
        self.assertFalse(make() == make(chosen=("rings",)))
        self.assertFalse(make() == make(doubts={}))
        self.assertTrue(make() != make(doubts={**self.doubts, (): (1, 1, 1)}))
        self.assertFalse(make() == make(doubts={**self.doubts, ("results",): (1, 1, 0)}))
        self.assertFalse(make() == make(doubts={**self.doubts, (): (True, 1, 0)}))
        self.assertFalse(make() == make(doubts={**self.doubts, (): (1, 1, False)}))


class Refused(unittest.TestCase):
    CALLS = [enough_sets, least_sets, needed, harms, smallest, Smallest((), {}).shows]

    def test_not_a_scheme(self):
        for value in [*ODD, Scheme]:
            for worlds in [[], None, [QUIET], [None]]:
                for call in self.CALLS:
                    with self.assertRaises(BadScheme) as caught:
                        call(value, worlds)
                    self.assertIsNone(caught.exception.part)

    def test_wrong_worlds(self):
        cases = [([QUIET] * 201, None), ({}, None), ("", None), (None, None), (iter([]), None), (True, None)]
        cases += [([QUIET, None], 1), ((QUIET, QUIET, list(QUIET)), 2), ([world(word=1)], 0), ([world(first=True)], 0)]
        scheme = scheme_of("show", kinds=("ticks", "firsts"))
        for worlds, index in cases:
            for call in self.CALLS:
                with self.assertRaises(BadWorlds) as caught:
                    call(scheme, worlds)
                self.assertEqual(repr(caught.exception.index), repr(index))


if __name__ == "__main__":
    unittest.main()
