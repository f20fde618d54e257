"""Tests of what several files of the package promise together, and of [1] over all of them."""

import copy
import random
import unittest

from samerun import choosing, deciding, digits, errors, machines, past, players, playing, schemes, sessions, texts
from samerun import thinning
from samerun.schemes import ALL_KINDS, QUIET, Scheme
from tests.samples import scheme_of, some_kinds, some_scheme, some_world, telling_scheme, world
from tests.search import first_apart, told_by, with_only

RING, TICK = world(rings=True), world(ticks=True)
SCHEME = scheme_of("call; show; time; show", "set 2; show", kinds=("rings", "ticks", "results"))
WORLDS = [world(result=2), TICK, RING, world(rings=True, result=1), QUIET, TICK]
NOTES = playing.notes(SCHEME, WORLDS, SCHEME.kinds)
# Nine single notes.
MANY_NOTES = [world(rings=True, ticks=True, result=1)] * 3


class Together(unittest.TestCase):
    def runs(self, seed, many=60, longest=25):
        """Yield schemes, each with the worlds of a run and a set of kinds that can happen."""
        source = random.Random(seed)
        for at in range(many):
            scheme = some_scheme(source) if at % 2 else telling_scheme(source, ALL_KINDS)
            worlds = [some_world(source, scheme.kinds) for _ in range(source.randint(0, longest))]
            yield scheme, worlds, tuple(kind for kind in scheme.kinds if source.random() < 0.6)

    def test_notes_that_are_written_and_read_and_played(self):
        for scheme, worlds, kinds in self.runs(181):
            noted, many = playing.notes(scheme, worlds, kinds), len(worlds)
            text = texts.notes_text(scheme, many, noted)
            coded = digits.encode(scheme, many, noted)
            again = texts.read_scheme(texts.scheme_text(scheme))
            self.assertTrue(again == scheme)
            same = texts.read_worlds(again, texts.worlds_text(scheme, worlds))
            self.assertEqual(repr(same), repr(worlds))
            here = playing.played(scheme, worlds, kinds)
            self.assertEqual(playing.size(noted), sum(len(pairs) for pairs in noted.values()))
            for found in (texts.read_notes(again, many, text), digits.decode(again, many, coded)):
                self.assertEqual(repr(found), repr(noted))
                player = players.Player(again, many, found)
                player.go(many)
                self.assertEqual(player.shown, here)
            triple = first_apart(playing.shown(scheme, worlds), here)
            expected = playing.Same() if triple is None else playing.Parts(*triple)
            self.assertTrue(playing.compare(again, same, kinds) == expected)

    def test_a_session_and_its_run(self):
        for scheme, worlds, kinds in self.runs(182):
            session = sessions.Session(scheme, kinds)
            for each in worlds:
                session.step(each)
            there, here = playing.shown(scheme, worlds), playing.played(scheme, worlds, kinds)
            self.assertEqual(session.journal, list(zip(worlds, there, here)))
            self.assertEqual(repr(session.notes), repr(playing.notes(scheme, worlds, kinds)))
            found = playing.compare(scheme, worlds, kinds)
            self.assertEqual(session.apart, getattr(found, "index", None))
            player = players.Player(scheme, len(session), session.notes)
            player.go(len(session))
            self.assertEqual(player.state, session.machines()[1].state)
            self.assertEqual(sessions.Session(scheme, kinds).tried(worlds), list(zip(there, here)))

    def test_a_player_with_marks_and_the_states_of_a_run(self):
        source = random.Random(183)
        for scheme, worlds, kinds in self.runs(184):
            machine = machines.Machine(scheme)
            states, told = [machine.state], []
            for each in worlds:
                told.append(machine.step(with_only(each, kinds)))
                states.append(machine.state)
            noted, many = playing.notes(scheme, worlds, kinds), len(worlds)
            player = players.Player(scheme, many, noted, spacing=source.randint(1, 6), room=source.randint(1, 5))
            for _ in range(8):
                goal = source.randint(0, many)
                player.go(goal)
                self.assertEqual(repr((player.state, player.shown)), repr((states[goal], told[:goal])))
                self.assertTrue(machines.machine_at(scheme, player.state) == machines.machine_at(scheme, states[goal]))

    def test_single_notes_and_notes(self):
        for scheme, worlds, kinds in self.runs(185, many=120, longest=6):
            single = thinning.single_notes(scheme, worlds)
            noted = playing.notes(scheme, worlds, scheme.kinds)
            self.assertEqual(single, [(step, *pair) for step, pairs in noted.items() for pair in pairs])
            self.assertEqual(len(single), playing.size(noted))
            if len(single) > 8:
                continue
            # The notes for a set of kinds are a choice of the single notes.
            choice = tuple(at for at, (_, kind, _) in enumerate(single) if kind in kinds)
            found, parts = playing.compare(scheme, worlds, kinds), thinning.parting(scheme, worlds, choice)
            self.assertTrue(parts is None if found == playing.Same() else parts == found)
            self.assertEqual(kinds in choosing.enough_sets(scheme, worlds),
                             choice in thinning.enough_choices(scheme, worlds))
            least = playing.size(playing.notes(scheme, worlds, choosing.smallest(scheme, worlds).chosen))
            self.assertLessEqual(len(thinning.fewest(scheme, worlds).chosen), least)

    def test_what_is_enough_for_all_runs_is_enough_for_one(self):
        source = random.Random(186)
        for _ in range(15):
            scheme = telling_scheme(source, some_kinds(source, 0, 2))
            found = choosing.matter(scheme)
            self.assertTrue(deciding.is_enough(scheme, found.chosen))
            for kind, worlds in found.doubts.items():
                others = tuple(each for each in found.chosen if each != kind)
                self.assertEqual(playing.compare(scheme, worlds, others).index, len(worlds) - 1)
            for _ in range(5):
                worlds = [some_world(source, scheme.kinds) for _ in range(10)]
                self.assertTrue(playing.compare(scheme, worlds, found.chosen) == playing.Same())
                self.assertIn(found.chosen, choosing.enough_sets(scheme, worlds))

    def test_what_matters_and_single_notes(self):
        # A part matters for some step if and only if all single notes but this one are not enough.
        for scheme, worlds, _ in self.runs(187, many=120, longest=5):
            single = thinning.single_notes(scheme, worlds)
            if len(single) > 8:
                continue
            mattering = [pair for step in range(len(worlds)) for pair in past.matters(scheme, worlds, step)]
            for at, (step, kind, _) in enumerate(single):
                others = tuple(other for other in range(len(single)) if other != at)
                self.assertEqual((step, kind) in mattering, thinning.parting(scheme, worlds, others) is not None)

    def test_the_past_of_a_session(self):
        for scheme, worlds, kinds in self.runs(188, many=40):
            session = sessions.Session(scheme, kinds)
            session.tried(worlds)
            for each in worlds:
                session.step(each)
            there = [told for _, told, _ in session.journal]
            run = [each for each, _, _ in session.journal]
            for number in range(3):
                expected = there.index(number) if number in there else None
                self.assertEqual(past.first_shown(scheme, run, number), expected)
            for step in range(len(run)):
                self.assertEqual(past.origin(scheme, run, step) is None, there[step] is None)


class Equality(unittest.TestCase):
    """`==` and `shows` go by the attributes that an object has now."""

    def objects(self):
        """Return, for each class, two equal objects, what `shows` is asked, and other values of each attribute."""
        small = scheme_of("call; show", "set 2; show", kinds=("rings", "results"))
        worlds = [world(result=2), RING, RING, QUIET]
        return [
            (lambda: playing.compare(small, worlds, ("results",)), (small, worlds, ("results",)),
             {"index": [0, 2, True, None], "there": [0, 1, 2, False], "here": [None, 0, 1, True]}),
            (lambda: deciding.decide(small, ("rings", "results")), (small, ("rings", "results")), {"pairs": [[]]}),
            (lambda: deciding.decide(small, ("results",)), (small, ("results",)),
             {"worlds": [(QUIET,), (QUIET,) * 9, (RING, RING, RING)]}),
            (lambda: choosing.matter(small), (small,),
             {"chosen": [(), ("rings",)], "pairs": [[]], "doubts": [{}, {"rings": (QUIET,), "results": (QUIET,)}]}),
            (lambda: choosing.smallest(small, worlds), (small, worlds),
             {"chosen": [(), ("results",)], "doubts": [{}, {(): (0, 1, 2)}]}),
            (lambda: thinning.fewest(small, worlds), (small, worlds),
             {"chosen": [(), (0,), (0, 1)], "doubts": [{}, {(): playing.Parts(0, 1, 2)}]}),
        ]

    def test_changed_attributes(self):
        for make, given, values in self.objects():
            for name, others in values.items():
                for other in others:
                    found, same = make(), make()
                    self.assertTrue(found == same)
                    self.assertIs(found.shows(*given), True)
                    right = getattr(found, name)
                    setattr(found, name, other)
                    self.assertFalse(found == same, (name, other))
                    self.assertTrue(found != same)
                    self.assertIs(found.shows(*given), False, (name, other))
                    setattr(found, name, right)
                    self.assertTrue(found == same)
                    self.assertIs(found.shows(*given), True)

    def test_a_changed_part_of_a_doubt(self):
        make, given, _ = self.objects()[5]
        found = make()
        found.doubts[()].here = 1 if found.doubts[()].here != 1 else 0
        self.assertFalse(found == make())
        self.assertIs(found.shows(*given), False)

    def test_schemes_and_machines(self):
        self.assertTrue(texts.read_scheme(texts.scheme_text(SCHEME)) == SCHEME)
        one, other = sessions.Session(SCHEME, SCHEME.kinds).machines()
        self.assertTrue(one == other == machines.Machine(SCHEME))
        one.step(TICK)
        self.assertFalse(one == other)


class NewValues(unittest.TestCase):
    def calls(self):
        """Return a list of calls, each of which returns a list or a dict."""
        player = players.Player(SCHEME, 6, NOTES, spacing=2)
        player.go(5)
        session = sessions.Session(SCHEME, ("results",))
        for each in WORLDS:
            session.step(each)
        found = [
            lambda: playing.shown(SCHEME, WORLDS), lambda: playing.notes(SCHEME, WORLDS, ("rings",)),
            lambda: playing.played(SCHEME, WORLDS, ()), lambda: deciding.decide(SCHEME, SCHEME.kinds).pairs,
            lambda: choosing.matter(SCHEME).pairs, lambda: choosing.matter(SCHEME).doubts,
            lambda: choosing.smallest(SCHEME, WORLDS).doubts, lambda: thinning.fewest(SCHEME, WORLDS).doubts,
            lambda: players.costs(6, [5, 3]), lambda: player.marks, lambda: player.shown, lambda: session.journal,
            lambda: session.notes, lambda: session.branch().journal, lambda: sessions.Session(SCHEME, ()).tried(WORLDS),
            lambda: past.origin(SCHEME, WORLDS, 1), lambda: past.matters(SCHEME, WORLDS, 1),
            lambda: texts.read_worlds(SCHEME, "ticks\nquiet\n"), lambda: texts.read_notes(SCHEME, 6, "3: ticks\n"),
            lambda: digits.decode(SCHEME, 6, digits.encode(SCHEME, 6, NOTES)),
        ]
        for call in (choosing.enough_sets, choosing.least_sets, choosing.needed, choosing.harms, thinning.single_notes,
                     thinning.enough_choices, thinning.needed_notes):
            found.append(lambda call=call: call(SCHEME, WORLDS))
        return found

    def test_each_returned_list_and_dict_is_new(self):
        for call in self.calls():
            first = call()
            self.assertIn(type(first), (list, dict))
            kept = copy.deepcopy(first)
            self.assertIsNot(call(), first)
            if isinstance(first, list):
                first.append("spoilt")
            else:
                first["spoilt"] = "spoilt"
            self.assertTrue(call() == kept)

    def test_arguments_are_not_changed(self):
        worlds, noted = copy.deepcopy((WORLDS, NOTES))
        for call in self.calls():
            call()
        texts.worlds_text(SCHEME, WORLDS)
        texts.notes_text(SCHEME, 6, NOTES)
        self.assertEqual(repr((WORLDS, NOTES)), repr((worlds, noted)))

    def test_arguments_are_not_kept(self):
        noted, worlds = dict(NOTES), list(WORLDS)
        player = players.Player(SCHEME, 6, noted)
        session = sessions.Session(SCHEME, SCHEME.kinds)
        session.tried(worlds)
        found = playing.compare(SCHEME, worlds, ())
        noted.clear()
        worlds.clear()
        player.go(6)
        self.assertEqual(player.shown, playing.shown(SCHEME, WORLDS))
        self.assertIs(found.shows(SCHEME, WORLDS, ()), True)

    def test_lists_and_dicts_of_objects_are_copied(self):
        pairs, doubts, triples, parts = [1], {"rings": ()}, {(): (0, 1, 2)}, {(): playing.Parts(0, 1, 2)}
        found = [deciding.Always(pairs).pairs, choosing.Matter((), pairs, doubts).pairs,
                 choosing.Matter((), pairs, doubts).doubts, choosing.Smallest((), triples).doubts,
                 thinning.Fewest((), parts).doubts]
        for copied, given in zip(found, [pairs, pairs, doubts, triples, parts]):
            self.assertTrue(copied == given)
            self.assertIsNot(copied, given)


def wrong_scheme():
    return [(value, (errors.BadScheme, "part", None)) for value in (None, SCHEME.threads, Scheme)]


def wrong_worlds():
    return [(None, (errors.BadWorlds, "index", None)), ([QUIET] * 201, (errors.BadWorlds, "index", None)),
            ([QUIET, None], (errors.BadWorlds, "index", 1)), ((world(word=1),), (errors.BadWorlds, "index", 0)),
            (MANY_NOTES + [False], (errors.BadWorlds, "index", 3))]


def wrong(kind, *values):
    """Return pairs of a value and the error of this kind that is due."""
    return [(value, (kind, None, None)) for value in values]


SCHEMES = ("scheme", SCHEME, wrong_scheme())
RUNS = ("worlds", WORLDS, wrong_worlds())
FEW_NOTES = ("worlds", WORLDS, [*wrong_worlds(), *wrong(errors.TooMany, MANY_NOTES)])
KINDS = ("kinds", ("rings",), wrong(errors.BadKinds, None, ["rings"], ("alarms",), ("ticks", "rings"), (True,)))
STEPS = wrong(errors.BadStep, None, -1, 7, True, "0", 10 ** 5000)
MANY = ("many", 6, wrong(errors.BadNumber, None, -1, 201, True, "6"))
NOTED = ("notes", NOTES, wrong(errors.BadNotes, None, [], {6: (("ticks", True),)}, {0: ()}, {0: (("words", 1),)}))
SPACING = ("spacing", 3, wrong(errors.BadMarks, None, 0, 51, True))
ROOM = ("room", 3, wrong(errors.BadMarks, None, 0, 6, False))
GOALS = ("goals", [1, 6], wrong(errors.BadStep, None, 3, [7], [True], [0] * 51))


def texts_of(*rows):
    """Return pairs of a text and the error with the row that is due."""
    return [(text, (errors.BadText, "row", row)) for text, row in rows]


# Each function and method that raises errors, with its arguments in the order in which they are checked; each has
# its name, a right value, and pairs of a wrong value and the error that is due.
CALLS = [
    (Scheme, [("threads", SCHEME.threads, [(None, (errors.BadScheme, "part", "THREADS"))]),
              ("handler", (), [(None, (errors.BadScheme, "part", "HANDLER"))]),
              ("kinds", (), [(None, (errors.BadScheme, "part", "KINDS"))])]),
    (schemes.is_world, [SCHEMES, ("value", QUIET, [])]),
    (machines.Machine, [SCHEMES]),
    (machines.machine_at, [SCHEMES, ("state", machines.Machine(SCHEME).state, [])]),
    (machines.Machine(SCHEME).step, [("world", QUIET, [(None, (errors.BadWorlds, "index", None))])]),
    (playing.shown, [SCHEMES, RUNS]),
    (playing.notes, [SCHEMES, RUNS, KINDS]),
    (playing.played, [SCHEMES, RUNS, KINDS]),
    (playing.compare, [SCHEMES, RUNS, KINDS]),
    (playing.Same().shows, [SCHEMES, RUNS, KINDS]),
    (playing.Parts(1, None, 2).shows, [SCHEMES, RUNS, KINDS]),
    (deciding.decide, [SCHEMES, KINDS]),
    (deciding.is_enough, [SCHEMES, KINDS]),
    (deciding.Always([]).shows, [SCHEMES, KINDS]),
    (deciding.Sometimes((QUIET,)).shows, [SCHEMES, KINDS]),
    (choosing.matter, [SCHEMES]),
    (choosing.Matter((), [], {}).shows, [SCHEMES]),
    (choosing.enough_sets, [SCHEMES, RUNS]),
    (choosing.least_sets, [SCHEMES, RUNS]),
    (choosing.needed, [SCHEMES, RUNS]),
    (choosing.harms, [SCHEMES, RUNS]),
    (choosing.smallest, [SCHEMES, RUNS]),
    (choosing.Smallest((), {}).shows, [SCHEMES, RUNS]),
    (thinning.single_notes, [SCHEMES, RUNS]),
    (thinning.enough_choices, [SCHEMES, FEW_NOTES]),
    (thinning.needed_notes, [SCHEMES, FEW_NOTES]),
    (thinning.fewest, [SCHEMES, FEW_NOTES]),
    (thinning.Fewest((), {}).shows, [SCHEMES, FEW_NOTES]),
    (thinning.parting, [SCHEMES, FEW_NOTES,
                        ("choice", (0, 2), wrong(errors.BadChoice, None, [0], (0, 0), (2, 1), (8,), (True,)))]),
    (players.Player, [SCHEMES, MANY, NOTED, SPACING, ROOM]),
    (players.Player(SCHEME, 6, {}).go, [("step", 6, STEPS)]),
    (players.costs, [MANY, GOALS, SPACING, ROOM]),
    (players.best_spacing, [MANY, GOALS, ROOM]),
    (past.writer, [SCHEMES, RUNS, ("step", 6, STEPS),
                   ("cell", 2, wrong(errors.BadCell, None, -1, 3, True, "0"))]),
    (past.first_shown, [SCHEMES, RUNS, ("number", 2, wrong(errors.BadNumber, None, -1, 3, False, "0"))]),
    (past.origin, [SCHEMES, RUNS, ("step", 5, [*STEPS, *wrong(errors.BadStep, 6)])]),
    (past.matters, [SCHEMES, RUNS, ("step", 5, [*STEPS, *wrong(errors.BadStep, 6)])]),
    (sessions.Session, [SCHEMES, KINDS]),
    (sessions.Session(SCHEME, ()).step, [("world", QUIET, [(None, (errors.BadWorlds, "index", None))])]),
    (sessions.Session(SCHEME, ()).tried, [RUNS]),
    (texts.scheme_text, [SCHEMES]),
    (texts.worlds_text, [SCHEMES, RUNS]),
    (texts.notes_text, [SCHEMES, MANY, NOTED]),
    (texts.read_scheme, [("text", texts.scheme_text(SCHEME), texts_of((None, 0), ("thread show\n", 1), ("x", 0)))]),
    (texts.read_worlds, [SCHEMES, ("text", "rings\n", texts_of((None, 0), ("rings\nalarms\n", 1), ("rings\nx", 1)))]),
    (texts.read_notes, [SCHEMES, MANY,
                        ("text", "5: rings\n", texts_of((None, 0), ("6: rings\n", 0), ("5: rings\n5: ticks\n", 1)))]),
    (digits.encode, [SCHEMES, MANY, NOTED]),
    (digits.decode, [SCHEMES, MANY,
                     ("text", "0", [(value, (errors.BadDigits, "offset", offset)) for value, offset in
                                    [(None, None), ("", None), ("1", 0), ("0061000009", 0), ("0051000005", 1)]])]),
]


class Refused(unittest.TestCase):
    def call(self, function, given):
        """Call a function by the order of its arguments; those behind the star are passed by their names."""
        behind = ["spacing", "room"] + (["handler", "kinds"] if function is Scheme else [])
        named = {name: value for name, value in given.items() if name in behind}
        return function(*[value for name, value in given.items() if name not in behind], **named)

    def assert_due(self, due, function, given):
        kind, attribute, value = due
        try:
            self.call(function, given)
        except errors.RunError as error:
            self.assertIs(type(error), kind, (function, given))
            if attribute is not None:
                self.assertEqual(repr(getattr(error, attribute)), repr(value), (function, given))
        else:
            self.fail(f"no {kind} of {function} with {given}")

    def test_right_arguments(self):
        for function, arguments in CALLS:
            self.call(function, {name: value for name, value, _ in arguments})

    def test_each_wrong_argument(self):
        for function, arguments in CALLS:
            right = {name: value for name, value, _ in arguments}
            for name, _, wrongs in arguments:
                for value, due in wrongs:
                    self.assert_due(due, function, {**right, name: value})

    def test_the_first_of_two_errors(self):
        for function, arguments in CALLS:
            right = {name: value for name, value, _ in arguments}
            for at, (name, _, wrongs) in enumerate(arguments):
                for later, _, others in arguments[at + 1:]:
                    for value, due in wrongs:
                        for other, _ in others:
                            self.assert_due(due, function, {**right, name: value, later: other})

    def test_all_arguments_behind_are_wrong(self):
        for function, arguments in CALLS:
            given = {name: value for name, value, _ in arguments}
            for name, value, wrongs in reversed(arguments):
                for other, due in wrongs:
                    self.assert_due(due, function, {**given, name: other})
                if wrongs:
                    given[name] = wrongs[0][0]

    def test_refused_calls_change_nothing(self):
        worlds, noted = copy.deepcopy((WORLDS, NOTES))
        self.test_each_wrong_argument()
        self.assertEqual(repr((WORLDS, NOTES)), repr((worlds, noted)))

    def test_the_interface_is_whole(self):
        listed = {
            schemes: ["ALL_KINDS", "QUIET", "Scheme", "is_world"], machines: ["Machine", "machine_at"],
            playing: ["shown", "notes", "size", "played", "compare", "Same", "Parts"],
            deciding: ["decide", "is_enough", "Always", "Sometimes"],
            choosing: ["matter", "Matter", "enough_sets", "least_sets", "needed", "harms", "smallest", "Smallest"],
            thinning: ["single_notes", "enough_choices", "needed_notes", "fewest", "parting", "Fewest"],
            players: ["Player", "costs", "best_spacing"],
            past: ["writer", "first_shown", "origin", "matters"], sessions: ["Session"],
            texts: ["scheme_text", "worlds_text", "notes_text", "read_scheme", "read_worlds", "read_notes"],
            digits: ["encode", "decode"],
        }
        for module, names in listed.items():
            for name in names:
                found = getattr(module, name)
                self.assertEqual(getattr(found, "__module__", module.__name__), module.__name__)

    def test_the_tests_of_the_tests(self):
        # What is refused here for one reason alone is right otherwise.
        self.assertEqual(len(thinning.single_notes(SCHEME, MANY_NOTES)), 9)
        self.assertLessEqual(len(thinning.single_notes(SCHEME, WORLDS)), 8)
        self.assertEqual(told_by(SCHEME, WORLDS), playing.shown(SCHEME, WORLDS))


if __name__ == "__main__":
    unittest.main()
