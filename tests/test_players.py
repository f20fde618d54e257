"""Tests of samerun.players: [13], and what [1] says of it."""

import random
import unittest

from samerun.errors import BadMarks, BadNotes, BadNumber, BadScheme, BadStep
from samerun.machines import Machine
from samerun.playing import notes
from samerun.players import Player, best_spacing, costs
from samerun.schemes import ALL_KINDS, QUIET, Scheme
from tests.reference import Reference
from tests.samples import ODD, Sly, scheme_of, some_scheme, some_world, telling_scheme
from tests.search import with_only

QUIET_SCHEME = scheme_of("set 1; show")
SHORT = scheme_of("call; show; time; show")
NUMBERS = [None, "", "1", [], {}, (), (1,), True, False, Sly(), 10 ** 5000, -(10 ** 5000), -1, object(), int]


class Walker:
    """A player of the test's own: it does each step anew, and keeps its marks as [13] says, word by word."""

    def __init__(self, scheme, worlds, spacing, room):
        reference = Reference(scheme.threads, scheme.handler)
        self.states, self.told = [reference.state()], []
        for each in worlds:
            self.told.append(reference.step(each))
            self.states.append(reference.state())
        self.many, self.spacing, self.room = len(worlds), spacing, room
        self.at, self.total, self.marks = 0, 0, [0]

    def go(self, goal):
        start = 0
        for step in [*self.marks, self.at]:
            if start < step <= goal:
                start = step
        for step in range(start + 1, goal + 1):
            if step % self.spacing == 0 and step not in self.marks:
                self.marks.append(step)
                self.marks.sort()
                if len(self.marks) > self.room:
                    self.give_up()
        self.at = goal
        self.total += goal - start
        return goal - start

    def give_up(self):
        best = None
        for before, mark, after in zip(self.marks, self.marks[1:], [*self.marks[2:], self.many]):
            if best is None or after - before < best[0]:
                best = (after - before, mark)
        self.marks.remove(best[1])


def noted(worlds):
    """Return the notes of worlds, of all their parts."""
    found = {}
    for step, each in enumerate(worlds):
        pairs = tuple((kind, part) for kind, part, quiet in zip(ALL_KINDS, each, QUIET) if part != quiet)
        if pairs:
            found[step] = pairs
    return found


class Walks(unittest.TestCase):
    def assert_walk(self, scheme, worlds, goals, spacing, room):
        player = Player(scheme, len(worlds), noted(worlds), spacing=spacing, room=room)
        walker = Walker(scheme, worlds, spacing, room)
        self.assert_there(player, walker)
        done = []
        for goal in goals:
            done.append(player.go(goal))
            self.assertEqual(repr(done[-1]), repr(walker.go(goal)), (spacing, room, goals))
            self.assert_there(player, walker)
        self.assertEqual(sum(done), player.total)
        for given in (list(goals), tuple(goals)):
            self.assertEqual(repr(costs(len(worlds), given, spacing=spacing, room=room)), repr(done))

    def assert_there(self, player, walker):
        self.assertEqual(repr(player.at), repr(walker.at))
        self.assertEqual(repr(player.marks), repr(walker.marks))
        self.assertEqual(repr(player.total), repr(walker.total))
        self.assertEqual(repr(player.state), repr(walker.states[walker.at]))
        self.assertEqual(repr(player.shown), repr(walker.told[:walker.at]))

    def test_each_spacing_and_each_room(self):
        source = random.Random(51)
        for spacing in range(1, 51):
            for room in range(1, 6):
                scheme = some_scheme(source) if room % 2 else telling_scheme(source, ALL_KINDS)
                many = source.choice([spacing, 2 * spacing, 3 * spacing + 1, source.randint(0, 200), 200])
                many = min(many, 200)
                worlds = [some_world(source, scheme.kinds) for _ in range(many)]
                goals = [source.randint(0, many) for _ in range(12)]
                self.assert_walk(scheme, worlds, goals, spacing, room)

    def test_long_walks(self):
        source = random.Random(52)
        for _ in range(40):
            scheme = some_scheme(source)
            many = source.randint(20, 60)
            worlds = [some_world(source, scheme.kinds) for _ in range(many)]
            goals = [source.randint(0, many) for _ in range(50)]
            self.assert_walk(scheme, worlds, goals, source.randint(1, 12), source.randint(1, 5))

    def test_small_steps_forwards_and_backwards(self):
        source = random.Random(53)
        for _ in range(40):
            goals, at = [], 0
            for _ in range(50):
                at = max(0, min(50, at + source.randint(-6, 7)))
                goals.append(at)
            worlds = [some_world(source) for _ in range(50)]
            self.assert_walk(scheme_of("call; show; take; show", "time; show"), worlds, goals, source.randint(1, 9),
                             source.randint(1, 5))

    def test_a_player_of_0_steps_and_of_200(self):
        player = Player(SHORT, 0, {})
        self.assertEqual([player.go(0), player.at, player.marks, player.total, player.shown], [0, 0, [0], 0, []])
        self.assertEqual(player.state, Machine(SHORT).state)
        worlds = [some_world(random.Random(54)) for _ in range(200)]
        self.assert_walk(SHORT, worlds, [200, 0, 199, 200, 1, 100, 200], 7, 5)
        self.assert_walk(SHORT, [], [0, 0, 0], 1, 1)

    def test_what_is_not_noted_does_not_happen(self):
        source = random.Random(55)
        for _ in range(30):
            scheme = telling_scheme(source, ALL_KINDS)
            worlds = [some_world(source) for _ in range(30)]
            kinds = tuple(kind for kind in ALL_KINDS if source.random() < 0.5)
            player = Player(scheme, 30, notes(scheme, worlds, kinds))
            player.go(30)
            walker = Walker(scheme, [with_only(each, kinds) for each in worlds], 10, 3)
            walker.go(30)
            self.assert_there(player, walker)


class Marks(unittest.TestCase):
    def walk(self, goals, many=100, spacing=10, room=3):
        """Return the marks behind each step of a walk."""
        player, found = Player(QUIET_SCHEME, many, {}, spacing=spacing, room=room), []
        for goal in goals:
            player.go(goal)
            found.append(player.marks)
        return found

    def test_defaults(self):
        player, other = Player(QUIET_SCHEME, 100, {}), Player(QUIET_SCHEME, 100, {}, spacing=10, room=3)
        for goal in [35, 100, 57]:
            self.assertEqual((player.go(goal), player.marks), (other.go(goal), other.marks))
        self.assertEqual(costs(100, [35, 100, 57]), costs(100, [35, 100, 57], spacing=10, room=3))
        self.assertEqual(best_spacing(100, [35, 100, 57]), best_spacing(100, [35, 100, 57], room=3))

    def test_keyword_only(self):
        with self.assertRaises(TypeError):
            Player(QUIET_SCHEME, 10, {}, 4)
        with self.assertRaises(TypeError):
            costs(10, [], 4)
        with self.assertRaises(TypeError):
            best_spacing(10, [], 4)

    def test_marks_are_set_at_multiples(self):
        self.assertEqual(self.walk([9, 10, 19, 20, 0]), [[0], [0, 10], [0, 10], [0, 10, 20], [0, 10, 20]])
        self.assertEqual(self.walk([4], many=4, spacing=4), [[0, 4]])
        self.assertEqual(self.walk([3], many=4, spacing=4), [[0]])
        self.assertEqual(self.walk([50], many=50, spacing=50), [[0, 50]])
        self.assertEqual(self.walk([3], many=3, spacing=1, room=5), [[0, 1, 2, 3]])

    def test_the_first_of_several_with_the_same_distance(self):
        # From 10 on: 0 10 20 30 with distances 20, 20 and 80; the first one is given up.
        self.assertEqual(self.walk([30]), [[0, 20, 30]])
        # 0 20 30 40: 30, 20 and 70.
        self.assertEqual(self.walk([40]), [[0, 20, 40]])
        # 0 20 40 50: 40, 30 and 60.
        self.assertEqual(self.walk([50]), [[0, 20, 50]])
        # 0 20 50 60: 50, 40 and 50.
        self.assertEqual(self.walk([60]), [[0, 20, 60]])

    def test_the_end_of_the_run_counts_as_a_mark(self):
        # 0 4 8 12 of a run of 12 steps: 8, 8 and 4.
        self.assertEqual(self.walk([8, 12], many=12, spacing=4), [[0, 4, 8], [0, 4, 8]])
        # 0 10 20 30 of a run of 30, 35 and 40 steps: 20, 20, and 10, 15 or 20.
        self.assertEqual(self.walk([30], many=30), [[0, 10, 20]])
        self.assertEqual(self.walk([30], many=35), [[0, 10, 20]])
        self.assertEqual(self.walk([30], many=40), [[0, 20, 30]])

    def test_the_mark_that_has_just_been_set(self):
        player = Player(QUIET_SCHEME, 12, {}, spacing=4)
        self.assertEqual([player.go(12), player.marks, player.at], [12, [0, 4, 8], 12])
        # It is at 12, but no mark is there any more.
        self.assertEqual([player.go(12), player.marks], [0, [0, 4, 8]])
        self.assertEqual([player.go(11), player.go(12), player.marks], [3, 1, [0, 4, 8]])

    def test_room_for_one(self):
        self.assertEqual(self.walk([5, 40, 100, 3], room=1), [[0]] * 4)
        self.assertEqual(costs(100, [50, 60, 55, 55, 0], room=1), [50, 10, 55, 0, 0])

    def test_room_for_two(self):
        # 0 10 20 of 100 steps: 20 and 90; 0 20 30: 30 and 80; and so on, up to 0 50 60: 60 and 50.
        self.assertEqual(self.walk([20], room=2), [[0, 20]])
        self.assertEqual(self.walk([50], room=2), [[0, 50]])
        self.assertEqual(self.walk([60], room=2), [[0, 50]])
        self.assertEqual(self.walk([60], room=2, many=110), [[0, 60]])
        self.assertEqual(self.walk([40, 20], room=2, many=40), [[0, 20], [0, 20]])

    def test_a_mark_that_is_there_is_not_set_again(self):
        player = Player(QUIET_SCHEME, 40, {}, spacing=10, room=5)
        self.assertEqual([player.go(40), player.marks], [40, [0, 10, 20, 30, 40]])
        self.assertEqual([player.go(12), player.go(35), player.marks], [2, 5, [0, 10, 20, 30, 40]])

    def test_the_place_at_which_it_is_counts(self):
        player = Player(QUIET_SCHEME, 100, {}, spacing=50)
        self.assertEqual([player.go(30), player.go(35), player.go(34), player.total], [30, 5, 34, 69])
        self.assertEqual([player.go(34), player.go(0), player.total, player.at], [0, 0, 69, 0])

    def test_marks_between(self):
        player = Player(QUIET_SCHEME, 100, {}, spacing=10, room=5)
        self.assertEqual([player.go(25), player.go(5), player.go(24), player.total], [25, 5, 4, 34])

    def test_returned_lists_are_new(self):
        player = Player(QUIET_SCHEME, 40, {})
        player.go(21)
        player.marks.clear()
        player.shown.clear()
        self.assertEqual((player.marks, player.shown[:4], len(player.shown)), ([0, 10, 20], [None, 1, None, 1], 21))
        kept = player.marks, player.shown
        player.go(40)
        self.assertEqual((kept[0], len(kept[1])), ([0, 10, 20], 21))

    def test_properties(self):
        for name in ["at", "marks", "total", "state", "shown"]:
            self.assertIsInstance(getattr(Player, name), property)
            with self.assertRaises(AttributeError):
                setattr(Player(QUIET_SCHEME, 1, {}), name, 0)


class Notes(unittest.TestCase):
    def test_notes_in_any_order_of_their_steps(self):
        for given in [{0: (("results", 2),), 5: (("ticks", True),)}, {5: (("ticks", True),), 0: (("results", 2),)}]:
            player = Player(SHORT, 12, given, spacing=4)
            player.go(8)
            self.assertEqual(player.shown, [None, 2, None, 0, None, 0, None, 1])

    def test_the_dict_is_not_kept_and_not_changed(self):
        given = {0: (("results", 2),)}
        player = Player(SHORT, 12, given)
        given[0] = (("results", 1),)
        given[4] = (("results", 1),)
        player.go(6)
        self.assertEqual(player.shown, [None, 2, None, 0, None, 0])
        self.assertEqual(given, {0: (("results", 1),), 4: (("results", 1),)})

    def test_all_pairs(self):
        pairs = {"rings": [True], "alarms": [True], "ticks": [True], "words": [1, 2], "results": [1, 2],
                 "firsts": [1, 2]}
        values = [*NUMBERS, 0, 1, 2, 3]
        for kind, right in pairs.items():
            for part in values:
                expected = any(type(part) is type(each) and part == each for each in right)
                self.assert_notes({0: ((kind, part),)}, expected)

    def test_orders_and_lengths(self):
        full = (("rings", True), ("alarms", True), ("ticks", True), ("words", 2), ("results", 1), ("firsts", 2))
        for at in range(1, 64):
            chosen = tuple(pair for place, pair in enumerate(full) if at >> place & 1)
            self.assert_notes({3: chosen}, True)
            if len(chosen) > 1:
                self.assert_notes({3: chosen[::-1]}, False)
            self.assert_notes({3: chosen + chosen[:1]}, False)
            self.assert_notes({3: chosen[:1] + chosen}, False)
            self.assert_notes({3: list(chosen)}, False)
            self.assert_notes({3: tuple(list(pair) for pair in chosen)}, False)
        self.assert_notes({3: (("words", 1), ("words", 2))}, False)
        self.assert_notes({3: ()}, False)

    def test_what_is_no_pair(self):
        for value in [*ODD, ("rings",), ("rings", True, True), ("ring", True), ("", 1), (None, True), (1, 1), "ab",
                      (["rings"], True), (Sly(), True), ("rings", Sly()), {"rings": True}, ["rings", True]]:
            self.assert_notes({0: (value,)}, False)
            self.assert_notes({0: (("rings", True), value)}, False)
            self.assert_notes({0: value}, False)

    def test_steps(self):
        right = (("ticks", True),)
        for step in [*range(-3, 15), 200, 10 ** 5000, -(10 ** 5000), True, False, None, "0", (), (0,), b"", Ellipsis]:
            expected = isinstance(step, int) and not isinstance(step, bool) and 0 <= step < 12
            self.assert_notes({step: right}, expected)
            self.assert_notes({2: right, step: right}, expected)
        for many in (0, 1, 200):
            for step in (0, 1, 199, 200):
                self.assert_notes({step: right}, step < many, many)

    def test_kinds_that_cannot_happen(self):
        scheme = scheme_of("show", kinds=("ticks", "words"))
        for kind, part in [("rings", True), ("alarms", True), ("results", 1), ("firsts", 2)]:
            with self.assertRaises(BadNotes):
                Player(scheme, 5, {0: ((kind, part),)})
        Player(scheme, 5, {4: (("ticks", True), ("words", 1))})

    def test_what_is_no_dict(self):
        for value in [*[each for each in ODD if not isinstance(each, dict)], [(0, (("ticks", True),))], ((0, ()),)]:
            self.assert_notes(value, False)
        self.assert_notes({}, True)

    def assert_notes(self, given, expected, many=12):
        if expected:
            Player(SHORT, many, given)
            return
        with self.assertRaises(BadNotes):
            Player(SHORT, many, given)


class Refused(unittest.TestCase):
    def raised(self, *given, **more):
        try:
            Player(*given, **more)
        except (BadScheme, BadNumber, BadNotes, BadMarks) as error:
            return type(error)
        return None

    def test_the_order_of_the_errors(self):
        right = {"scheme": SHORT, "many": 5, "notes": {4: (("ticks", True),)}, "spacing": 10, "room": 3}
        wrong = {"scheme": [None, ((("show", 0),),)], "many": [-1, 201, None, True, "5"],
                 "notes": [None, [], {5: (("ticks", True),)}, {0: ()}, {True: (("ticks", True),)}],
                 "spacing": [0, 51, None, True], "room": [0, 6, None, True]}
        errors = {"scheme": BadScheme, "many": BadNumber, "notes": BadNotes, "spacing": BadMarks, "room": BadMarks}
        names = list(right)
        for at, name in enumerate(names):
            for value in wrong[name]:
                self.assertIs(self.raised(**{**right, name: value}), errors[name])
                for later in names[at:]:
                    for other in wrong[later]:
                        given = {**right, later: other, name: value}
                        self.assertIs(self.raised(**given), errors[name])
        self.assertIsNone(self.raised(**right))

    def test_not_a_scheme(self):
        for value in [*ODD, Scheme]:
            with self.assertRaises(BadScheme) as caught:
                Player(value, None, None, spacing=None, room=None)
            self.assertIsNone(caught.exception.part)

    def test_numbers_of_steps(self):
        for many in range(-2, 205):
            self.assertIs(self.raised(SHORT, many, {}), None if 0 <= many <= 200 else BadNumber)
        for many in NUMBERS:
            self.assertIs(self.raised(SHORT, many, {}), BadNumber)
            with self.assertRaises(BadNumber):
                costs(many, [])
            with self.assertRaises(BadNumber):
                best_spacing(many, [])

    def test_spacings_and_rooms(self):
        for number in [*range(-2, 55), 200]:
            self.assertIs(self.raised(SHORT, 3, {}, spacing=number), None if 1 <= number <= 50 else BadMarks)
            self.assertIs(self.raised(SHORT, 3, {}, room=number), None if 1 <= number <= 5 else BadMarks)
        for number in NUMBERS:
            self.assertIs(self.raised(SHORT, 3, {}, spacing=number), BadMarks)
            self.assertIs(self.raised(SHORT, 3, {}, room=number), BadMarks)

    def test_a_refused_go_changes_nothing(self):
        player = Player(SHORT, 30, {0: (("results", 2),)}, spacing=4)
        for goal in [0, 7, 30, 13]:
            player.go(goal)
            before = (player.at, player.marks, player.total, player.state, player.shown)
            for step in [*NUMBERS, 31, 200]:
                with self.assertRaises(BadStep):
                    player.go(step)
                self.assertEqual((player.at, player.marks, player.total, player.state, player.shown), before)
        other = Player(SHORT, 30, {0: (("results", 2),)}, spacing=4)
        for goal in [0, 7, 30, 13]:
            other.go(goal)
        self.assertEqual([player.go(20), player.marks], [other.go(20), other.marks])


class Costs(unittest.TestCase):
    def test_no_goals(self):
        self.assertEqual([costs(10, []), costs(0, ()), costs(0, [0])], [[], [], [0]])
        for many in (0, 10, 200):
            for room in range(1, 6):
                self.assertEqual(best_spacing(many, [], room=room), (1, 0))

    def test_the_best_spacing(self):
        source = random.Random(61)
        for at in range(40):
            many = source.choice([0, 1, 5, 30, 100, 200])
            goals = [source.randint(0, many) for _ in range(source.choice([1, 3, 10, 50]))]
            room = at % 5 + 1
            sums = []
            for spacing in range(1, 51):
                walker = Walker(SHORT, [QUIET] * many, spacing, room)
                sums.append(sum(walker.go(goal) for goal in goals))
            expected = (sums.index(min(sums)) + 1, min(sums))
            for given in (list(goals), tuple(goals)):
                found = best_spacing(many, given, room=room)
                self.assertIsInstance(found, tuple)
                self.assertEqual(repr(found), repr(expected))

    def test_several_best_ones(self):
        # A player that only goes forwards does each step once, whatever the spacing is.
        self.assertEqual(best_spacing(100, [10, 40, 100]), (1, 100))
        self.assertEqual(best_spacing(10, [10, 4, 10]), (2, 12))
        self.assertEqual(best_spacing(10, [10, 4, 10], room=1), (1, 20))
        # Only a mark at 50 that stays saves all but one step of the way to 51.
        self.assertEqual(best_spacing(60, [60, 51], room=2), (50, 61))

    def test_the_list_is_new_and_goals_stay(self):
        goals = [8, 6, 12, 1]
        costs(12, goals, spacing=4).clear()
        self.assertEqual(costs(12, goals, spacing=4), [8, 2, 4, 1])
        best_spacing(12, goals)
        self.assertEqual(goals, [8, 6, 12, 1])

    def test_wrong_goals(self):
        wrong = [None, "", "12", {}, {1: 2}, {1}, range(3), 5, True, object(), iter([]), [0] * 51, (0,) * 51, [13],
                 [0, 13], [-1], [True], [0, False], [None], ["1"], [[1]], [(1,)], [Sly()], [10 ** 5000], (1, 2, 13)]
        for goals in wrong:
            for call in (costs, best_spacing):
                with self.assertRaises(BadStep):
                    call(12, goals)
                with self.assertRaises(BadStep):
                    call(12, goals, room=0)
                with self.assertRaises(BadNumber):
                    call(201, goals, room=0)
        self.assertEqual(len(costs(12, [0, 12] * 25)), 50)
        self.assertEqual(len(costs(12, (12,) * 50)), 50)

    def test_wrong_marks(self):
        for number in [*NUMBERS, 0, 51]:
            for call in (lambda: costs(5, [1], spacing=number), lambda: costs(5, [1], room=number),
                         lambda: best_spacing(5, [1], room=number), lambda: costs(5, [], spacing=number),
                         lambda: best_spacing(5, [], room=number)):
                with self.assertRaises(BadMarks):
                    call()
            for call in (lambda: costs(5, [6], spacing=number), lambda: best_spacing(5, [6], room=number)):
                with self.assertRaises(BadStep):
                    call()
        with self.assertRaises(BadMarks):
            costs(5, [1], room=6)
        with self.assertRaises(BadMarks):
            best_spacing(5, [1], room=6)
        self.assertEqual([costs(5, [1], spacing=50, room=5), best_spacing(5, [1], room=5)], [[1], (1, 1)])


if __name__ == "__main__":
    unittest.main()
