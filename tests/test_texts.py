"""Tests of samerun.texts: [16], and what [1] says of it."""

import random
import unittest

from samerun.errors import BadNotes, BadNumber, BadScheme, BadText, BadWorlds
from samerun.playing import notes
from samerun.schemes import ALL_KINDS, QUIET, Scheme
from samerun.texts import notes_text, read_notes, read_scheme, read_worlds, scheme_text, worlds_text
from tests.forms import (
    instruction_texts, kinds_lines, notes_read, pairs_of, pairs_texts, scheme_read, spoilt, worlds_read,
)
from tests.samples import ODD, Sly, scheme_of, some_code, some_kinds, some_scheme, some_world, world
from tests.search import worlds_of

FULL = scheme_of("show")
SHORT = scheme_of("show", kinds=("rings", "ticks", "words", "results"))
NUMBERS = [None, "", "1", [], {}, (), (1,), True, False, Sly(), 10 ** 5000, -(10 ** 5000), -1, 201, object(), int]
# What is put into right texts at random.
SIGNS = [" ", "  ", "\n", "\t", "\r", "\x0b", "\x0c", "\x85", "\u2028", "\u00a0", ";", "; ", ":", ": ", "0", "1", "2",
         "3", "5", "-", "+", "_", "\u0661", "\u00b2", "\uff11", "a", "s", "thread ", "handler", "kinds", "rings",
         "results 1", "quiet", "show", "jump 0"]
RIGHT = "thread time; show; jump 0\nhandler set 2\nkinds rings words\n"
# Signs at which lines end elsewhere, and others that are easily overlooked. Here no line ends with them.
OTHER_ENDS = ["\r", "\x0b", "\x0c", "\x1c", "\x1d", "\x1e", "\x85", "\u2028", "\u2029", "\x00", "\t", "\u00a0"]


class Reading(unittest.TestCase):
    def assert_row(self, row, call, *given):
        try:
            found = call(*given)
        except BadText as error:
            self.assertEqual(repr(error.row), repr(row), given[-1])
        else:
            self.fail(f"{given[-1]!r} is read as {found!r}")

    def assert_no_ends(self, lines, call, *given):
        """Check that no sign but a line feed ends a line of a text, and that none stands ahead of the line feed."""
        for sign in OTHER_ENDS:
            self.assert_row(0, call, *given, sign.join([*lines, ""]))
            for at in range(len(lines)):
                rows = [*lines[:at], lines[at] + sign, *lines[at + 1:], ""]
                self.assert_row(at, call, *given, "\n".join(rows))
                rows = [*lines[:at], sign + lines[at], *lines[at + 1:], ""]
                self.assert_row(at, call, *given, "\n".join(rows))
            self.assert_row(len(lines), call, *given, "\n".join([*lines, sign]))
            self.assert_row(len(lines) - 1, call, *given, "\n".join(lines) + sign)


class SchemesWritten(unittest.TestCase):
    def test_each_instruction(self):
        for places in range(1, 6):
            for text, instruction in instruction_texts(places).items():
                scheme = Scheme(((("show", 0),) * (places - 1) + (instruction,),), kinds=())
                expected = "thread " + "show; " * (places - 1) + text + "\nhandler\nkinds\n"
                self.assertEqual(scheme_text(scheme), expected)
                self.assertEqual(read_scheme(expected), scheme)

    def test_words_alone(self):
        scheme = scheme_of("show; shut; open; time; take", "count; spilt; call", handler="show", kinds=())
        expected = "thread show; shut; open; time; take\nthread count; spilt; call\nhandler show\nkinds\n"
        self.assertEqual(scheme_text(scheme), expected)

    def test_words_with_a_number(self):
        scheme = scheme_of("set 0; load 1; add 2; save 0; first 1", "jump 0", handler="set 1; jump 1", kinds=())
        expected = "thread set 0; load 1; add 2; save 0; first 1\nthread jump 0\nhandler set 1; jump 1\nkinds\n"
        self.assertEqual(scheme_text(scheme), expected)

    def test_handlers(self):
        for handler, line in [("", "handler"), ("shut", "handler shut"), ("set 2; save 0", "handler set 2; save 0"),
                              ("set 2; save 0; jump 2", "handler set 2; save 0; jump 2")]:
            text = scheme_text(scheme_of("show", handler=handler, kinds=()))
            self.assertEqual(text, f"thread show\n{line}\nkinds\n")

    def test_each_set_of_kinds(self):
        self.assertEqual(len(kinds_lines()), 64)
        for line, kinds in kinds_lines().items():
            scheme = scheme_of("show", kinds=kinds)
            self.assertEqual(scheme_text(scheme), f"thread show\nhandler\n{line}\n")
            self.assertEqual(read_scheme(f"thread show\nhandler\n{line}\n"), scheme)
        self.assertIn("kinds rings alarms ticks words results firsts", kinds_lines())

    def test_the_document_example(self):
        scheme = Scheme(((("time", 0), ("jump", 0)),), handler=(("set", 2),), kinds=("rings", "words"))
        self.assertEqual(scheme_text(scheme), "thread time; jump 0\nhandler set 2\nkinds rings words\n")
        found = worlds_text(scheme, [(True, False, False, 2, 0, 0), QUIET])
        self.assertEqual(found, "rings words 2\nquiet\n")
        self.assertEqual(notes_text(scheme, 20, {17: (("words", 1),)}), "17: words 1\n")
        self.assertEqual(read_worlds(scheme, "words 1\n"), [(False, False, False, 1, 0, 0)])

    def test_what_is_written_is_read_again(self):
        source = random.Random(161)
        for _ in range(300):
            scheme = some_scheme(source)
            found = read_scheme(scheme_text(scheme))
            self.assertEqual((found.threads, found.handler, found.kinds),
                             (scheme.threads, scheme.handler, scheme.kinds))
            self.assertIsInstance(found, Scheme)


class SchemesRead(Reading):
    def assert_line(self, line, at, rows=("thread show", "handler", "kinds")):
        """Check that a line is wrong at its place in the text of a scheme."""
        text = "\n".join([*rows[:at], line, *rows[at + 1:], ""])
        self.assert_row(at, read_scheme, text)

    def test_what_is_no_string(self):
        for value in [*[each for each in ODD if not isinstance(each, str)], RIGHT.encode(), [RIGHT], (RIGHT,)]:
            self.assert_row(0, read_scheme, value)

    def test_the_empty_text(self):
        for text in ["", "\n", "\n\n\n", " ", "thread show", "kinds", "x"]:
            self.assert_row(0, read_scheme, text)

    def test_lines_that_are_missing(self):
        self.assert_row(1, read_scheme, "thread show\n")
        self.assert_row(2, read_scheme, "thread show\nthread show\n")
        self.assert_row(3, read_scheme, "thread show\nthread show\nthread show\n")
        self.assert_row(2, read_scheme, "thread show\nhandler\n")
        self.assert_row(4, read_scheme, "thread show\n" * 3 + "handler\n")
        self.assert_row(1, read_scheme, "thread show\nkinds\n")
        self.assert_row(0, read_scheme, "handler\nkinds\n")
        self.assert_row(0, read_scheme, "kinds\n")

    def test_a_missing_last_line_feed(self):
        self.assert_row(2, read_scheme, "thread show\nhandler\nkinds")
        self.assert_row(1, read_scheme, "thread show\nhandler")
        self.assert_row(2, read_scheme, RIGHT[:-1])
        for at in range(len(RIGHT)):
            self.assert_row(RIGHT[:at].count("\n"), read_scheme, RIGHT[:at])

    def test_characters_behind_the_last_line_feed(self):
        for rest in [" ", "x", "\t", "\r", "kinds", "thread show", "\x00"]:
            self.assert_row(3, read_scheme, RIGHT + rest)

    def test_a_line_behind_kinds(self):
        for line in ["", " ", "kinds", "handler", "thread show", "x"]:
            self.assert_row(3, read_scheme, RIGHT + line + "\n")
            self.assert_row(3, read_scheme, RIGHT + line + "\nx")

    def test_how_many_threads(self):
        for many in (1, 2, 3):
            found = read_scheme("thread show\n" * many + "handler\nkinds\n")
            self.assertEqual(found.threads, ((("show", 0),),) * many)
        for many in (4, 5, 50):
            self.assert_row(3, read_scheme, "thread show\n" * many + "handler\nkinds\n")
        self.assert_row(3, read_scheme, "thread show\n" * 4)

    def test_lines_at_another_place(self):
        self.assert_row(2, read_scheme, "thread show\nhandler\nthread show\nkinds\n")
        self.assert_row(2, read_scheme, "thread show\nhandler\nhandler\nkinds\n")
        self.assert_row(1, read_scheme, "thread show\nkinds\nhandler\n")
        self.assert_row(0, read_scheme, "handler\nthread show\nkinds\n")

    def test_empty_lines(self):
        for at in range(4):
            rows = ["thread show", "handler", "kinds"]
            rows.insert(at, "")
            self.assert_row(at, read_scheme, "\n".join([*rows, ""]))

    def test_how_many_instructions(self):
        for many in range(1, 6):
            found = read_scheme("thread " + "; ".join(["show"] * many) + "\nhandler\nkinds\n")
            self.assertEqual(found.threads, ((("show", 0),) * many,))
        self.assert_line("thread", 0)
        self.assert_line("thread " + "; ".join(["show"] * 6), 0)
        for many in range(1, 4):
            found = read_scheme("thread show\nhandler " + "; ".join(["open"] * many) + "\nkinds\n")
            self.assertEqual(found.handler, (("open", 0),) * many)
        self.assert_line("handler " + "; ".join(["open"] * 4), 1)

    def test_blanks(self):
        for line in [" thread show", "thread show ", "thread  show", "thread ", "thread show;", "thread show; ",
                     "thread ; show", "thread show;show", "thread show ;show", "thread show ; show",
                     "thread show;  show", "thread\tshow", "thread show;\tshow", "thread set  1", "thread set\t1",
                     "thread set 1 ", "threadshow", "thread show, show", "thread show show", "thread show; ; show"]:
            self.assert_line(line, 0)
            self.assert_line(line, 1, ("thread show", "thread show", "handler", "kinds"))
            self.assert_line(line.replace("thread", "handler"), 1)
        for line in [" kinds", "kinds ", "kinds  rings", "kinds rings ", "kinds rings  ticks", "kinds\trings",
                     "kinds rings\tticks", "kinds rings, ticks", "kinds rings; ticks", " kinds rings", "kindsrings"]:
            self.assert_line(line, 2)
        for line in ["handler ", " handler", "handler\t"]:
            self.assert_line(line, 1)

    def test_words(self):
        for word in ["sets 1", "Set 1", "SET 1", "se 1", "", "1", "set1", "1 set", "halt", "quiet", "rings", "thread",
                     "handler", "kinds", "show show", "\u017fet 1", "set 1 1", "set one"]:
            self.assert_line("thread " + word, 0)
            self.assert_line("thread show; " + word, 0)
            self.assert_line("handler " + word, 1)
        for head in ["Thread", "threads", "thread:", "tread", "x", "HANDLER", "handlers", "Kinds", "kind"]:
            for at in range(3):
                self.assert_line(head + " show", at)
                self.assert_line(head, at)

    def test_numbers(self):
        for word in ["set", "load", "add", "save", "first", "jump"]:
            for number in ["", " ", " 3", " -1", " +1", " 01", " 00", " 1.", " 1_", " 1 ", " 1 0", " \u0661", " \u00b2",
                           " \uff11", " one", " True", " 0x1", " " + "9" * 5000, " " + "0" * 5000]:
                self.assert_line(f"thread {word}{number}", 0)
                self.assert_line(f"handler {word}{number}", 1)
        for word in ["show", "shut", "open", "time", "take", "count", "spilt", "call"]:
            for number in [" 0", " 1", " ", "  ", "0", " -0"]:
                self.assert_line(f"thread {word}{number}", 0)
                self.assert_line(f"handler {word}{number}", 1)

    def test_jumps(self):
        for many in range(1, 6):
            for place in range(7):
                line = "; ".join(["show"] * (many - 1) + [f"jump {place}"])
                if place < many:
                    self.assertEqual(read_scheme(f"thread {line}\nhandler\nkinds\n").threads[0][-1], ("jump", place))
                else:
                    self.assert_line("thread " + line, 0)
                if place >= many and many <= 3:
                    self.assert_line("handler " + line, 1)
        # The places are those of the line itself.
        self.assert_line("handler jump 1", 1, ("thread show; show", "handler", "kinds"))

    def test_kinds(self):
        for kinds in ["ring", "rings rings", "ticks rings", "firsts results", "rings alarms words ticks", "Rings",
                      "rings 1", "words 1", "quiet", "rings alarms ticks words results firsts rings", "None", "()"]:
            self.assert_line("kinds " + kinds, 2)

    def test_other_line_ends(self):
        self.assert_no_ends(["thread show; set 2", "thread jump 0", "handler", "kinds rings"], read_scheme)
        self.assert_no_ends(["thread show", "handler set 1; show", "kinds"], read_scheme)

    def test_the_first_wrong_line(self):
        self.assert_row(0, read_scheme, "x\ny\nz\n")
        self.assert_row(1, read_scheme, "thread show\nx\ny\nz")
        self.assert_row(1, read_scheme, "thread show\nthread set 3\nhandler x\nkinds x\n")

    def test_against_all_lines(self):
        source = random.Random(162)
        read = 0
        for _ in range(4000):
            threads = tuple(some_code(source, 1, 5) for _ in range(source.randint(1, 3)))
            scheme = Scheme(threads, handler=some_code(source, 0, 3), kinds=some_kinds(source, 0, 6))
            text = spoilt(source, scheme_text(scheme), SIGNS)
            parts, row = scheme_read(text)
            if row is None:
                found = read_scheme(text)
                self.assertEqual((found.threads, found.handler, found.kinds), parts)
                read += 1
            else:
                self.assert_row(row, read_scheme, text)
        self.assertGreater(read, 100)


class WorldsWritten(unittest.TestCase):
    def test_all_worlds(self):
        for text, each in pairs_texts(FULL).items():
            self.assertEqual(worlds_text(FULL, [each]), text + "\n")
            self.assertEqual(repr(read_worlds(FULL, text + "\n")), repr([each]))

    def test_lines(self):
        lines = {
            "quiet": QUIET, "rings": world(rings=True), "alarms": world(alarms=True), "ticks": world(ticks=True),
            "words 1": world(word=1), "words 2": world(word=2), "results 1": world(result=1),
            "results 2": world(result=2), "firsts 1": world(first=1), "firsts 2": world(first=2),
            "rings words 2 results 1": world(rings=True, word=2, result=1),
            "rings alarms ticks words 2 results 1 firsts 2":
                world(rings=True, alarms=True, ticks=True, word=2, result=1, first=2),
        }
        for line, each in lines.items():
            self.assertEqual(worlds_text(FULL, [each]), line + "\n")
            self.assertEqual(repr(read_worlds(FULL, line + "\n")), repr([each]))
        worlds = list(lines.values())
        text = "".join(line + "\n" for line in lines)
        self.assertEqual([worlds_text(FULL, worlds), worlds_text(FULL, tuple(worlds))], [text, text])
        self.assertEqual(repr(read_worlds(FULL, text)), repr(worlds))

    def test_no_worlds(self):
        self.assertEqual([worlds_text(FULL, []), worlds_text(FULL, ())], ["", ""])
        self.assertEqual(read_worlds(FULL, ""), [])

    def test_what_is_written_is_read_again(self):
        source = random.Random(163)
        for _ in range(100):
            scheme = some_scheme(source)
            worlds = [some_world(source, scheme.kinds) for _ in range(source.choice([0, 1, 5, 200]))]
            self.assertEqual(repr(read_worlds(scheme, worlds_text(scheme, worlds))), repr(worlds))

    def test_the_list_is_new_and_worlds_stay(self):
        worlds = [QUIET, world(ticks=True)]
        worlds_text(FULL, worlds)
        self.assertEqual(worlds, [QUIET, world(ticks=True)])
        read_worlds(FULL, "quiet\n").clear()
        self.assertEqual(read_worlds(FULL, "quiet\n"), [QUIET])

    def test_refused(self):
        for value in [*ODD, Scheme]:
            with self.assertRaises(BadScheme) as caught:
                worlds_text(value, None)
            self.assertIsNone(caught.exception.part)
            with self.assertRaises(BadScheme):
                scheme_text(value)
            with self.assertRaises(BadScheme):
                read_worlds(value, None)
        wrong = [(None, None), ("quiet\n", None), ([QUIET] * 201, None), ([QUIET, None], 1),
                 ([QUIET, QUIET, world(alarms=True)], 2)]
        for worlds, index in wrong:
            with self.assertRaises(BadWorlds) as caught:
                worlds_text(SHORT, worlds)
            self.assertEqual(caught.exception.index, index)


class WorldsRead(Reading):
    def assert_line(self, line, scheme=FULL):
        self.assert_row(0, read_worlds, scheme, line + "\n")
        self.assert_row(2, read_worlds, scheme, f"quiet\nquiet\n{line}\nquiet\n")

    def test_what_is_no_string(self):
        for value in [*[each for each in ODD if not isinstance(each, str)], b"quiet\n", ["quiet\n"]]:
            self.assert_row(0, read_worlds, FULL, value)

    def test_wrong_lines(self):
        for line in ["", " ", "quiet quiet", "quiet rings", "rings quiet", " quiet", "quiet ", "Quiet", "\tquiet",
                     "rings rings", "alarms rings", "words 1 words 2", "results 1 words 1", "firsts 1 rings",
                     "rings 1", "rings True", "ticks 0", "words", "words 0", "words 3", "words 01", "words +1",
                     "words -1", "words 1.", "words  1", "words\t1", "words1", "words 1 ", " words 1", "words 1  rings",
                     "results", "results 0", "results 3", "results results 1", "firsts 3", "firsts two", "first 1",
                     "words \u0661", "words \u00b2", "words \uff11", "words " + "1" * 5000, "rings; ticks",
                     "rings, ticks", "rings: ", "0: rings", "None", "rings  ticks", "rings ticks words",
                     "words rings", "words 1 2", "1 words"]:
            self.assert_line(line)

    def test_kinds_that_cannot_happen(self):
        for line in ["alarms", "firsts 1", "rings alarms", "rings alarms ticks", "words 1 firsts 2"]:
            self.assert_line(line, SHORT)
            self.assertEqual(len(read_worlds(FULL, line + "\n")), 1)
        nothing = scheme_of("show", kinds=())
        self.assertEqual(read_worlds(nothing, "quiet\nquiet\n"), [QUIET, QUIET])
        self.assert_line("rings", nothing)

    def test_a_missing_last_line_feed(self):
        self.assert_row(0, read_worlds, FULL, "quiet")
        self.assert_row(1, read_worlds, FULL, "quiet\nquiet")
        self.assert_row(1, read_worlds, FULL, "quiet\n ")
        self.assert_row(1, read_worlds, FULL, "quiet\nx")
        self.assert_row(1, read_worlds, FULL, "quiet\nx\nquiet")
        self.assert_row(0, read_worlds, FULL, " ")

    def test_empty_lines(self):
        self.assert_row(0, read_worlds, FULL, "\n")
        self.assert_row(1, read_worlds, FULL, "quiet\n\n")
        self.assert_row(1, read_worlds, FULL, "quiet\n\nquiet\n")

    def test_other_line_ends(self):
        self.assert_no_ends(["rings words 1", "quiet", "ticks", "firsts 2"], read_worlds, FULL)

    def test_two_hundred_lines(self):
        for many in (199, 200):
            self.assertEqual(read_worlds(FULL, "ticks\n" * many), [world(ticks=True)] * many)
            self.assert_row(many, read_worlds, FULL, "ticks\n" * many + "x")
        for many in (201, 202, 5000):
            self.assert_row(200, read_worlds, FULL, "quiet\n" * many)
            self.assert_row(200, read_worlds, FULL, "quiet\n" * many + "x")
            self.assert_row(7, read_worlds, FULL, "quiet\n" * 7 + "x\n" + "quiet\n" * many)
        self.assert_row(200, read_worlds, FULL, "quiet\n" * 200 + "x\n")
        self.assert_row(199, read_worlds, FULL, "quiet\n" * 199 + "x\n" * 2)

    def test_against_all_lines(self):
        source = random.Random(164)
        read = 0
        for scheme in (FULL, SHORT, scheme_of("show", kinds=("alarms", "firsts"))):
            known = pairs_texts(scheme)
            for _ in range(1500):
                worlds = [some_world(source, scheme.kinds) for _ in range(source.randint(0, 6))]
                text = spoilt(source, worlds_text(scheme, worlds), SIGNS)
                found, row = worlds_read(known, text)
                if row is None:
                    self.assertEqual(repr(read_worlds(scheme, text)), repr(found))
                    read += 1
                else:
                    self.assert_row(row, read_worlds, scheme, text)
        self.assertGreater(read, 100)


class NotesWritten(unittest.TestCase):
    def test_steps(self):
        given = {0: (("rings", True),), 9: (("words", 1),), 10: (("results", 2),), 99: (("alarms", True),),
                 100: (("ticks", True), ("firsts", 1)), 199: (("rings", True), ("results", 1))}
        expected = "0: rings\n9: words 1\n10: results 2\n99: alarms\n100: ticks firsts 1\n199: rings results 1\n"
        self.assertEqual(notes_text(FULL, 200, given), expected)
        # Dicts in arguments may be in any order.
        backwards = {step: given[step] for step in reversed(given)}
        self.assertEqual(notes_text(FULL, 200, backwards), expected)
        self.assertEqual(list(backwards), [199, 100, 99, 10, 9, 0])
        self.assertEqual(repr(read_notes(FULL, 200, expected)), repr(given))

    def test_all_pairs(self):
        for text, each in pairs_texts(FULL).items():
            given = {17: pairs_of(each)}
            self.assertEqual(notes_text(FULL, 18, given), f"17: {text}\n")
            self.assertEqual(repr(read_notes(FULL, 18, f"17: {text}\n")), repr(given))

    def test_no_notes(self):
        for many in (0, 1, 200):
            self.assertEqual(notes_text(FULL, many, {}), "")
            self.assertEqual(read_notes(FULL, many, ""), {})

    def test_what_is_written_is_read_again(self):
        source = random.Random(165)
        for _ in range(100):
            scheme = some_scheme(source)
            many = source.choice([0, 1, 12, 200])
            worlds = [some_world(source, scheme.kinds) for _ in range(many)]
            noted = notes(scheme, worlds, scheme.kinds)
            self.assertEqual(repr(read_notes(scheme, many, notes_text(scheme, many, noted))), repr(noted))

    def test_refused(self):
        right = {4: (("ticks", True),)}
        for value in [*ODD, Scheme]:
            for call in (notes_text, read_notes):
                with self.assertRaises(BadScheme):
                    call(value, None, None)
        for many in NUMBERS:
            for call in (notes_text, read_notes):
                with self.assertRaises(BadNumber):
                    call(SHORT, many, None)
        for given in [None, [], "", {5: (("ticks", True),)}, {0: ()}, {0: (("alarms", True),)}, {True: right[4]},
                      {0: (("words", 1), ("rings", True))}, {0: (("ticks", 1),)}, {"0": right[4]}]:
            with self.assertRaises(BadNotes):
                notes_text(SHORT, 5, given)
        self.assertEqual(notes_text(SHORT, 5, right), "4: ticks\n")

    def test_the_dict_is_new_and_notes_stay(self):
        given = {4: (("ticks", True),), 0: (("words", 2),)}
        notes_text(SHORT, 5, given)
        self.assertEqual(list(given.items()), [(4, (("ticks", True),)), (0, (("words", 2),))])
        read_notes(SHORT, 5, "4: ticks\n").clear()
        self.assertEqual(read_notes(SHORT, 5, "4: ticks\n"), {4: (("ticks", True),)})


class NotesRead(Reading):
    def assert_line(self, line, scheme=FULL, many=200):
        self.assert_row(0, read_notes, scheme, many, line + "\n")
        self.assert_row(1, read_notes, scheme, many, f"0: rings\n{line}\n199: rings\n")

    def test_what_is_no_string(self):
        for value in [*[each for each in ODD if not isinstance(each, str)], b"0: rings\n", {0: "rings"}]:
            self.assert_row(0, read_notes, FULL, 200, value)

    def test_wrong_lines(self):
        for line in ["", " ", ":", ": ", "1", "1:", "1: ", "1:rings", "1 : rings", "1 rings", "1:  rings", " 1: rings",
                     "1: rings ", "\t1: rings", "1:\trings", "1; rings", "1: quiet", "1: rings quiet", "rings",
                     ": rings", "01: rings", "001: rings", "+1: rings", "-1: rings", "1.0: rings", "1_0: rings",
                     "\u0661: rings", "\u00b2: rings", "\uff11: rings", "x: rings", "1: 1: rings", "1: rings: ",
                     "1: rings rings", "1: ticks rings", "1: words", "1: words 0", "1: words 3", "1: rings 1",
                     "1: words 01", "1: rings  ticks", "1: ring", "1, 2: rings", "9" * 5000 + ": rings",
                     "0" * 5000 + ": rings", "1e1: rings", "None: rings"]:
            self.assert_line(line)

    def test_steps(self):
        for many in (0, 1, 2, 10, 11, 100, 101, 200):
            for step in range(0, 205):
                if step < many:
                    self.assertEqual(read_notes(FULL, many, f"{step}: rings\n"), {step: (("rings", True),)})
                else:
                    self.assert_row(0, read_notes, FULL, many, f"{step}: rings\n")

    def test_the_order_of_steps(self):
        self.assert_row(1, read_notes, FULL, 200, "5: rings\n5: rings\n")
        self.assert_row(1, read_notes, FULL, 200, "5: rings\n5: ticks\n6: rings\n")
        self.assert_row(1, read_notes, FULL, 200, "5: rings\n4: rings\n")
        self.assert_row(2, read_notes, FULL, 200, "5: rings\n10: rings\n9: rings\n11: x\n")
        self.assert_row(1, read_notes, FULL, 200, "0: rings\n0: rings\n")
        # Steps are ordered as numbers, not as strings.
        found = read_notes(FULL, 200, "9: rings\n10: rings\n100: rings\n")
        self.assertEqual(list(found), [9, 10, 100])
        self.assert_row(1, read_notes, FULL, 200, "10: rings\n9: rings\n")

    def test_kinds_that_cannot_happen(self):
        for line in ["1: alarms", "1: firsts 1", "1: rings alarms", "1: words 1 firsts 2"]:
            self.assert_line(line, SHORT)
        self.assertEqual(read_notes(SHORT, 2, "1: rings words 1\n"), {1: (("rings", True), ("words", 1))})

    def test_a_missing_last_line_feed(self):
        self.assert_row(0, read_notes, FULL, 200, "1: rings")
        self.assert_row(1, read_notes, FULL, 200, "1: rings\n2: rings")
        self.assert_row(1, read_notes, FULL, 200, "1: rings\n ")
        self.assert_row(1, read_notes, FULL, 200, "1: rings\n\n")
        self.assert_row(0, read_notes, FULL, 0, "x")

    def test_other_line_ends(self):
        self.assert_no_ends(["1: rings words 1", "20: ticks", "199: firsts 2"], read_notes, FULL, 200)

    def test_against_all_lines(self):
        source = random.Random(166)
        read = 0
        for scheme in (FULL, SHORT):
            known = pairs_texts(scheme)
            for _ in range(1500):
                many = source.choice([3, 12, 30, 200])
                worlds = [some_world(source, scheme.kinds) for _ in range(many)]
                noted = notes(scheme, worlds, some_kinds(source, 0, 6) if scheme == FULL else ("rings",))
                steps = sorted(source.sample(sorted(noted), min(len(noted), 5)))
                text = notes_text(scheme, many, {step: noted[step] for step in steps})
                text = spoilt(source, text, SIGNS)
                found, row = notes_read(known, many, text)
                if row is None:
                    self.assertEqual(repr(read_notes(scheme, many, text)), repr(found))
                    read += 1
                else:
                    self.assert_row(row, read_notes, scheme, many, text)
        self.assertGreater(read, 100)


class AllKinds(unittest.TestCase):
    def test_the_lists_of_these_tests_are_whole(self):
        self.assertEqual(len(pairs_texts(FULL)), 2 * 2 * 2 * 3 * 3 * 3 - 1)
        self.assertEqual(len(worlds_of(FULL)), 216)
        self.assertEqual(FULL.kinds, ALL_KINDS)


if __name__ == "__main__":
    unittest.main()
