"""Tests of samerun.deciding: [9], and what [1] says of it."""

import random
import unittest

from samerun.deciding import Always, Sometimes, decide, is_enough
from samerun.errors import BadKinds, BadScheme, TooLarge
from samerun.schemes import ALL_KINDS, QUIET, Scheme, is_world
from tests.samples import ODD, Sly, scheme_of, some_code, some_kinds, world
from tests.search import Search, apart, subsets

# Each with the kinds that must be noted; a set of kinds is enough if it has all of them.
SMALL = [
    (scheme_of("set 1; show", kinds=()), ()),
    (scheme_of("set 1; show; jump 0", "show", handler="show", kinds=()), ()),
    (scheme_of("time; show", kinds=("ticks",)), ("ticks",)),
    (scheme_of("take; show", kinds=("ticks",)), ()),
    (scheme_of("take; show", kinds=("words",)), ("words",)),
    (scheme_of("count; show", kinds=("words",)), ("words",)),
    (scheme_of("spilt; show", kinds=("words",)), ("words",)),
    (scheme_of("set 0", kinds=("words",)), ()),
    (scheme_of("show", "show", kinds=("rings",)), ()),
    (scheme_of("set 1; show", "set 1; show", kinds=("rings",)), ("rings",)),
    (scheme_of("set 1", "set 1; show", "time", kinds=("rings",)), ("rings",)),
    (scheme_of("show", handler="set 1", kinds=("alarms",)), ("alarms",)),
    (scheme_of("show", handler="show", kinds=("alarms",)), ()),
    (scheme_of("shut; show", handler="set 1", kinds=("alarms",)), ("alarms",)),
    (scheme_of("show", kinds=("alarms",)), ()),
    (scheme_of("call; show", kinds=("results",)), ("results",)),
    (scheme_of("call; set 1; show", kinds=("results",)), ()),
    (scheme_of("first 1; load 1; show", kinds=("firsts",)), ("firsts",)),
    (scheme_of("first 1; load 2; show", kinds=("firsts",)), ()),
    (scheme_of("call; show", kinds=("results", "firsts")), ("results",)),
    (scheme_of("time; show", "call; show", kinds=("rings", "results")), ("rings", "results")),
    (scheme_of("time; save 0", "load 0; show", kinds=("rings", "ticks")), ("rings", "ticks")),
    (scheme_of("time; set 1", "set 2; show", kinds=("rings", "ticks")), ("rings",)),
    (scheme_of("call; jump 0; show", kinds=("rings", "results")), ("results",)),
    (scheme_of("load 0; show", handler="first 0", kinds=("alarms", "ticks", "firsts")), ("alarms", "firsts")),
    (scheme_of("load 0; show", handler="time; save 0", kinds=("rings", "alarms", "ticks")), ("alarms", "ticks")),
    (scheme_of("show", "show", "show", handler="set 2; show", kinds=("rings", "alarms", "ticks")), ("alarms",)),
    (scheme_of("time; show", "set 0", kinds=("rings", "ticks", "firsts")), ("rings", "ticks")),
    (scheme_of("take; add 0; save 0; show", kinds=("words",)), ("words",)),
]

RINGING = ("rings", "ticks", "words", "results")
# All runs of at most 3 steps lead to 1248 pairs, of at most 4 to 4890; only runs of 5 steps show the result.
LATE = scheme_of("call; save 0; load 0; add 0; show", "time; first 1; set 1", "take; set 2; first 2", kinds=RINGING)
# Runs of 3 steps part, so it does not matter to how many pairs they lead.
EARLY = scheme_of("time; call; show; shut; jump 0", "time; first 1; set 1", "take; set 2; first 2", kinds=RINGING)
# Nothing is ever shown, but there are 9684 states.
SILENT = scheme_of("time; save 0; time; save 1; time", "take", kinds=("rings", "ticks", "words"))

# With all notes, 2000 states, and 2001.
EDGE = scheme_of(
    "take; time; set 2; take; spilt", "save 0; jump 1", "show; jump 2; add 1",
    kinds=("rings", "alarms", "words", "results"),
)
OVER = scheme_of("save 1; call; spilt; open", handler="shut; open; shut", kinds=("alarms", "ticks", "words", "firsts"))
# Runs of at most 5 steps lead to 2250 pairs, but some of these part at the fifth step.
JUST = scheme_of("add 0; take; jump 4; set 1; shut", "take", handler="show")


class Checked(unittest.TestCase):
    def assert_pairs(self, search, kinds, pairs):
        self.assertIsInstance(pairs, list)
        for pair in pairs:
            self.assertIsInstance(pair, tuple)
            self.assertEqual(len(pair), 2)
        self.assertTrue(search.closed(dict.fromkeys(pairs), kinds))

    def assert_worlds(self, scheme, kinds, worlds):
        self.assertIsInstance(worlds, tuple)
        self.assertTrue(all(is_world(scheme, each) for each in worlds))
        found = apart(scheme, worlds, kinds)
        self.assertIsNotNone(found)
        self.assertEqual(found[0], len(worlds) - 1)

    def assert_decided(self, search, kinds):
        scheme, answer = search.scheme, search.answer(kinds)
        if answer is None:
            with self.assertRaises(TooLarge):
                decide(scheme, kinds)
            with self.assertRaises(TooLarge):
                is_enough(scheme, kinds)
            return answer
        found = decide(scheme, kinds)
        self.assertIs(is_enough(scheme, kinds), answer > 0)
        self.assertIs(type(found), Always if answer > 0 else Sometimes)
        if answer > 0:
            self.assert_pairs(search, kinds, found.pairs)
        else:
            self.assert_worlds(scheme, kinds, found.worlds)
        self.assertIs(found.shows(scheme, kinds), True)
        return answer


class Decided(Checked):
    def test_small_programs(self):
        for scheme, needed in SMALL:
            search = Search(scheme)
            for kinds in subsets(scheme.kinds):
                expected = all(kind in kinds for kind in needed)
                self.assertIs(is_enough(scheme, kinds), expected, (scheme.threads, kinds))
                self.assert_decided(search, kinds)

    def test_programs_of_a_random_source(self):
        source, answers = random.Random(11), set()
        for at in range(60):
            many = at % 3 + 1
            threads = tuple(some_code(source, 1, 5) for _ in range(many))
            handler = some_code(source, 0, 3)
            kinds = some_kinds(source, 0, 3)
            search = Search(Scheme(threads, handler=handler, kinds=kinds))
            sets = subsets(kinds)
            for chosen in source.sample(sets, min(3, len(sets))):
                answer = self.assert_decided(search, chosen)
                answers.add(answer if answer is None else answer > 0)
        self.assertEqual(answers, {True, False, None})

    def test_all_kinds_at_once(self):
        scheme = scheme_of("call; show", handler="set 0")
        search = Search(scheme)
        for kinds in [ALL_KINDS, ("alarms", "results"), ("rings", "alarms", "ticks", "words", "firsts")]:
            self.assert_decided(search, kinds)
        self.assertIs(is_enough(scheme, ("alarms", "results")), True)
        self.assertIs(is_enough(scheme, ("results",)), False)

    def test_the_first_step_may_part(self):
        found = decide(scheme_of("set 0", "show", kinds=("rings",)), ())
        self.assertEqual(found.worlds, (world(rings=True),))

    def test_a_number_and_none_part(self):
        found = decide(scheme_of("show", "set 0", kinds=("rings",)), ())
        self.assertEqual(found.worlds, (world(rings=True),))

    def test_long_runs(self):
        # The player's thread comes back to `show` with the same hand each time, but late.
        scheme = scheme_of("set 1; load 0; load 0; load 0; show", "set 1; set 1; set 1; first 0", kinds=("firsts",))
        self.assertIs(is_enough(scheme, ()), True)
        scheme = scheme_of("load 0; show; set 1; load 1; set 1", handler="first 0", kinds=("alarms", "firsts"))
        self.assert_decided(Search(scheme), ("alarms",))
        self.assert_decided(Search(scheme), ("firsts",))

    def test_every_answer_is_new(self):
        scheme = scheme_of("time; show", kinds=("ticks",))
        found = decide(scheme, ("ticks",))
        found.pairs.clear()
        self.assertIs(decide(scheme, ("ticks",)).shows(scheme, ("ticks",)), True)


class Large(Checked):
    def test_more_than_2000_pairs_without_an_end(self):
        for call in (decide, is_enough):
            with self.assertRaises(TooLarge):
                call(SILENT, SILENT.kinds)
            with self.assertRaises(TooLarge):
                call(SILENT, ())

    def test_runs_that_part_only_behind_more_than_2000_pairs(self):
        kinds = ("rings", "ticks", "words")
        for call in (decide, is_enough):
            with self.assertRaises(TooLarge):
                call(LATE, kinds)
        found = Sometimes((QUIET[:4] + (1, 0),) + (QUIET,) * 4)
        self.assertIs(found.shows(LATE, kinds), True)

    def test_runs_that_part_before(self):
        for kinds in [("rings", "ticks", "words"), ("rings", "words"), ()]:
            self.assert_worlds(EARLY, kinds, decide(EARLY, kinds).worlds)
            self.assertIs(is_enough(EARLY, kinds), False)
        with self.assertRaises(TooLarge):
            decide(EARLY, EARLY.kinds)

    def test_2000_pairs_are_not_too_many_and_2001_are(self):
        found = decide(EDGE, EDGE.kinds)
        self.assertEqual(len(found.pairs), 2000)
        self.assert_pairs(Search(EDGE), EDGE.kinds, found.pairs)
        self.assertIs(is_enough(EDGE, EDGE.kinds), True)
        self.assertIs(found.shows(EDGE, EDGE.kinds), True)
        for call in (decide, is_enough):
            with self.assertRaises(TooLarge):
                call(OVER, OVER.kinds)
        self.assertEqual([Search(OVER).answer(OVER.kinds, most) for most in (2000, 2001)], [None, 2001])

    def test_a_step_that_parts_among_the_last_of_too_many_pairs(self):
        kinds = ("rings", "alarms", "ticks", "results")
        self.assert_worlds(JUST, kinds, decide(JUST, kinds).worlds)
        self.assertEqual(len(decide(JUST, kinds).worlds), 5)

    def test_the_search_agrees(self):
        self.assertIsNone(Search(LATE).answer(("rings", "ticks", "words")))
        self.assertEqual(Search(EARLY).answer(("rings", "ticks", "words")), -3)
        self.assertIsNone(Search(SILENT).answer(SILENT.kinds))

    def test_shows_raises_no_too_large(self):
        search, kinds = Search(SILENT), SILENT.kinds
        start = (search.start, search.start)
        self.assertIs(Always([start]).shows(SILENT, kinds), False)
        self.assertIs(Sometimes((QUIET,)).shows(SILENT, kinds), False)
        self.assertIs(Always([start]).shows(LATE, ("rings", "ticks", "words")), False)
        seen, level = {start: True}, [start]
        while level:
            level = [pair for pair in dict.fromkeys(lead for each in level for lead, _ in search.leads(each, kinds))
                     if pair not in seen]
            seen.update(dict.fromkeys(level))
        self.assertGreater(len(seen), 2000)
        self.assertIs(Always(list(seen)).shows(SILENT, kinds), True)
        self.assertIs(Always(list(seen)[:-1]).shows(SILENT, kinds), False)


class ShownPairs(unittest.TestCase):
    def setUp(self):
        self.kinds = ("rings", "ticks")
        self.scheme = scheme_of("time; show; jump 0", "load 1; show", kinds=self.kinds)
        self.pairs = decide(self.scheme, self.kinds).pairs

    def shows(self, pairs, kinds=("rings", "ticks")):
        return Always(pairs).shows(self.scheme, kinds)

    def test_in_any_order_and_twice(self):
        self.assertIs(self.shows(self.pairs), True)
        self.assertIs(self.shows(self.pairs[::-1]), True)
        self.assertIs(self.shows(self.pairs + self.pairs[:1]), True)
        self.assertIs(self.shows(self.pairs + self.pairs[::-1]), True)

    def test_a_pair_left_out(self):
        start = Search(self.scheme).start
        for at, pair in enumerate(self.pairs):
            self.assertIs(self.shows(self.pairs[:at] + self.pairs[at + 1:]), False, pair == (start, start))
        self.assertIs(self.shows([]), False)
        self.assertIs(self.shows([(start, start)]), False)

    def test_the_beginning_left_out(self):
        # Here no world leads back to the beginning, so that the other pairs are closed among themselves.
        scheme = scheme_of("set 1", kinds=("ticks",))
        start = Search(scheme).start
        pairs = decide(scheme, ()).pairs
        self.assertIs(Always(pairs).shows(scheme, ()), True)
        others = [pair for pair in pairs if pair != (start, start)]
        self.assertTrue(all(lead in others for each in others for lead, _ in Search(scheme).leads(each, ())))
        self.assertIs(Always(others).shows(scheme, ()), False)

    def test_more_pairs_than_are_needed(self):
        scheme = scheme_of("time", kinds=("ticks",))
        needed = decide(scheme, ("ticks",)).pairs
        states = [there for there, _ in needed]
        for one in states:
            for other in states:
                if one != other:
                    self.assertIs(Always(needed + [(one, other)]).shows(scheme, ("ticks",)), False)
        every = [(one, other) for one in states for other in states]
        self.assertGreater(len(every), len(needed))
        self.assertIs(Always(every).shows(scheme, ("ticks",)), True)
        self.assertIs(Always(every).shows(scheme, ()), True)

    def test_more_pairs_that_show_something_else(self):
        states = [there for there, _ in self.pairs]
        every = [(one, other) for one in states for other in states]
        self.assertIs(self.shows(every), False)

    def test_the_other_answer_is_due(self):
        for kinds in [(), ("rings",), ("ticks",)]:
            self.assertIs(self.shows(self.pairs, kinds), False)
        for scheme, needed in SMALL:
            full = decide(scheme, scheme.kinds)
            self.assertIs(full.shows(scheme, scheme.kinds), True)
            if needed:
                self.assertIs(full.shows(scheme, ()), False)

    def test_pairs_of_fewer_kinds_need_not_do_for_more(self):
        scheme = scheme_of("time", kinds=("ticks",))
        self.assertIs(decide(scheme, ()).shows(scheme, ()), True)
        self.assertIs(decide(scheme, ()).shows(scheme, ("ticks",)), False)

    def test_a_changed_attribute(self):
        found = Always([])
        found.pairs = self.pairs
        self.assertIs(found.shows(self.scheme, self.kinds), True)
        found.pairs = found.pairs[1:]
        self.assertIs(found.shows(self.scheme, self.kinds), False)
        found = Always(self.pairs)
        found.pairs.pop()
        self.assertIs(found.shows(self.scheme, self.kinds), False)

    def test_the_list_is_copied(self):
        given = list(self.pairs)
        found = Always(given)
        given.clear()
        self.assertEqual(found.pairs, self.pairs)
        found.pairs.append(found.pairs[0])
        self.assertEqual(given, [])
        self.assertIsInstance(found.pairs, list)

    def test_equality(self):
        self.assertTrue(Always(self.pairs) == Always(list(self.pairs)))
        self.assertFalse(Always(self.pairs) != Always(list(self.pairs)))
        self.assertFalse(Always(self.pairs) == Always(self.pairs[::-1]))
        self.assertFalse(Always(self.pairs) == Always(self.pairs[:-1]))
        self.assertTrue(Always(self.pairs) != Always(self.pairs + self.pairs[:1]))
        self.assertTrue(Always([]) == Always([]))
        found = Always([])
        found.pairs = self.pairs
        self.assertTrue(found == Always(self.pairs))

    def test_a_boolean_is_no_number(self):
        there, here = self.pairs[0]
        odd = there[:1] + (False,) + there[2:]
        self.assertEqual((odd, here), (there, here))
        self.assertFalse(Always([(odd, here)]) == Always([(there, here)]))


class ShownWorlds(unittest.TestCase):
    def setUp(self):
        self.scheme = scheme_of("time; show; jump 0", "load 1; show", kinds=("rings", "ticks"))
        self.worlds = (world(ticks=True), QUIET)

    def shows(self, worlds, kinds=("rings",)):
        return Sometimes(worlds).shows(self.scheme, kinds)

    def test_worlds_that_part_at_the_last_step(self):
        self.assertIs(self.shows(self.worlds), True)
        self.assertIs(self.shows(self.worlds, ()), True)
        self.assertIs(self.shows((world(ticks=True),) + (QUIET,) * 4), False)
        self.assertIs(self.shows((QUIET,) * 3 + (world(ticks=True), QUIET, QUIET)), False)
        self.assertIs(self.shows((QUIET,) * 3 + (world(ticks=True), QUIET)), True)

    def test_worlds_that_part_too_early_or_not_at_all(self):
        self.assertIs(self.shows(self.worlds + (QUIET,)), False, "one more")
        self.assertIs(self.shows(self.worlds[:-1]), False, "one less")
        self.assertIs(self.shows(self.worlds + (QUIET,) * 3), False, "they part there again")
        self.assertIs(self.shows(()), False)
        self.assertIs(self.shows((QUIET,) * 5), False)
        self.assertIs(self.shows((world(ticks=True), world(ticks=True), QUIET, world(ticks=True), QUIET)), False)

    def test_the_other_answer_is_due(self):
        for kinds in [("ticks",), ("rings", "ticks")]:
            self.assertIs(self.shows(self.worlds, kinds), False)
        for scheme, needed in SMALL:
            if needed:
                self.assertIs(decide(scheme, ()).shows(scheme, ()), True)
                self.assertIs(decide(scheme, ()).shows(scheme, scheme.kinds), False)

    def test_worlds_of_more_than_200_steps(self):
        many = (QUIET,) * 300
        self.assertIs(self.shows(many + self.worlds), True)
        self.assertIs(self.shows(many + self.worlds + (QUIET,)), False)

    def test_a_changed_attribute(self):
        found = Sometimes(())
        found.worlds = self.worlds
        self.assertIs(found.shows(self.scheme, ("rings",)), True)
        found.worlds = self.worlds[:1]
        self.assertIs(found.shows(self.scheme, ("rings",)), False)

    def test_equality(self):
        self.assertTrue(Sometimes(self.worlds) == Sometimes((world(ticks=True), QUIET)))
        self.assertFalse(Sometimes(self.worlds) != Sometimes((world(ticks=True), QUIET)))
        self.assertFalse(Sometimes(self.worlds) == Sometimes(self.worlds[:1]))
        self.assertFalse(Sometimes(self.worlds) == Sometimes((world(ticks=True), world(ticks=True))))
        self.assertTrue(Sometimes(self.worlds) != Sometimes(()))
        self.assertTrue(Sometimes(()) == Sometimes(()))
        self.assertFalse(Sometimes((world(result=1),)) == Sometimes((world(result=True),)))
        self.assertFalse(Sometimes((QUIET,)) == Sometimes(((0,) + QUIET[1:],)))


class Refused(unittest.TestCase):
    CALLS = [decide, is_enough, Always([]).shows, Sometimes(()).shows, Sometimes((QUIET,)).shows]

    def test_not_a_scheme(self):
        for value in [*ODD, Scheme]:
            for kinds in [(), None, ("rings",), [], "rings"]:
                for call in self.CALLS:
                    with self.assertRaises(BadScheme) as caught:
                        call(value, kinds)
                    self.assertIsNone(caught.exception.part)

    def test_not_a_set_of_kinds_that_can_happen(self):
        wrong = [("alarms",), ("rings", "alarms"), ("ticks", "rings"), ("rings", "rings"), ALL_KINDS, ["rings"], [],
                 ("rings", None), ("rings", ["ticks"]), (Sly(),), "rings", ("rings", 1), ("",), {}, {"rings": 1}]
        for kinds in [*[each for each in ODD if each != () or not isinstance(each, tuple)], *wrong]:
            # BadKinds comes first, also where the search would be too large.
            for scheme in [scheme_of("show", kinds=("rings", "ticks", "words")), SILENT]:
                for call in self.CALLS:
                    with self.assertRaises(BadKinds):
                        call(scheme, kinds)


if __name__ == "__main__":
    unittest.main()
