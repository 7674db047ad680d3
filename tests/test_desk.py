"""lanescribe.desk: each form of its lines, each answer, and lines that are none."""

import unittest

from lanescribe.desk import Desk
from lanescribe.errors import BadSize
from lanescribe.recorder import Recorder

from tests.helpers import BASE, NO_TESTS, shown_recorder

# The lines of BASE.
LINES = ("kind send size:0:9 to:1:4", "kind idle", "lane a over", "lane b stop")
NINES = "9" * 30
ONE = "write a send 1 1"
FULL_B = ("write b send 1 1", "write b send 2 1")
EIGHT_KINDS = tuple(f"kind {name}" for name in "cdefgh")
SIX_LANES = tuple(f"lane {name} over" for name in "cdef")
FOUR_TALLIES = tuple(f"tally {name} all" for name in "tuvw")

# Lines said behind LINES, a line, its answer, and the deed that it is (None for questions and refusals).
ANSWERS = (
    ((), "kind x", "done", ("kind", "x", ())),
    ((), "kind abcdefgh a:-999999:999999 b:0:0 c:-1:-1 d:5:7", "done",
     ("kind", "abcdefgh", (("a", -999999, 999999), ("b", 0, 0), ("c", -1, -1), ("d", 5, 7)))),
    ((), "lane c over", "done", ("lane", "c", True)),
    ((), "lane c stop", "done", ("lane", "c", False)),
    ((), "lane over over", "done", ("lane", "over", True)),
    ((), "tick a 0", "done", ("tick", "a", 0)),
    ((), "tick a 999999", "done", ("tick", "a", 999999)),
    ((), "claim a send", "1", ("claim", "a", "send")),
    ((ONE, "claim a idle"), "claim a idle", "3", ("claim", "a", "idle")),
    (FULL_B, "claim b send", "missed", ("claim", "b", "send")),
    (("claim a send",), "fill a 9 4", "done", ("fill", "a", (9, 4))),
    (("claim a idle",), "fill a", "done", ("fill", "a", ())),
    (("claim a send",), "give a", "given", ("give", "a")),
    (("sieve a not(all)", "claim a send"), "give a", "thrown", ("give", "a")),
    (("claim a send",), "throw a", "done", ("throw", "a")),
    ((), "write a send 0 1", "given", ("write", "a", "send", (0, 1))),
    ((), "write b idle", "given", ("write", "b", "idle", ())),
    (("kind low x:-9:-1",), "write a low -9", "given", ("write", "a", "low", (-9,))),
    (("sieve a size<5",), "write a send 5 1", "thrown", ("write", "a", "send", (5, 1))),
    (FULL_B, "write b send 1 1", "missed", ("write", "b", "send", (1, 1))),
    ((), "take a", "none", ("take", "a")),
    (("tick a 7", ONE), "take a", "event 0 7 send 1 1", ("take", "a")),
    (("write a idle",), "take a", "event 0 0 idle", ("take", "a")),
    ((ONE,) * 4, "take a", "lost 2", ("take", "a")),
    ((), "resize a 16", "done", ("resize", "a", 16)),
    ((), "sieve a all", "done", ("sieve", "a", ("all",))),
    ((), "sieve a and(is:send,not(or(size<-5,to=0)))", "done",
     ("sieve", "a", ("and", ("is", "send"), ("not", ("or", ("less", "size", -5), ("same", "to", 0)))))),
    ((), "tally t all", "done", ("tally", "t", ("all",), ())),
    ((), "tally t size<5 to size", "done", ("tally", "t", ("less", "size", 5), ("to", "size"))),
    ((), "halt is:send", "done", ("halt", ("is", "send"))),
    ((), "halt -", "done", ("halt", None)),
    ((), "stop", "done", ("stop",)),
    (("stop",), "stop", "done", ("stop",)),
    ((), "go", "done", ("go",)),
)
QUESTIONS = (
    ((), "counts a", "0 0 0 0"),
    (FULL_B + ("write b send 1 1", "claim b idle", "throw b"), "counts b", "2 1 0 1"),
    ((ONE,) * 12, "counts a", "12 0 10 0"),
    ((), "look a", "none"),
    (("claim a send", "write a idle"), "look a", "none"),
    ((ONE,), "look a", "event 0 0 send 1 1"),
    ((ONE, "tick a 3", "write a send 9 4", "write a idle"), "look a",
     "event 0 0 send 1 1, event 1 3 send 9 4, event 2 3 idle"),
    ((ONE,) * 4, "look a", "lost 2, event 2 0 send 1 1, event 3 0 send 1 1"),
    ((ONE, "take a"), "look a", "none"),
    (("tally t all",), "table t", "none"),
    (("tally t all", ONE, ONE), "table t", ":2"),
    (("tally t all size", "write a send 7 1", ONE, ONE), "table t", "1:2 7:1"),
    (("tally t all size to", "write a send 7 1", ONE, "write a send 1 3", ONE), "table t", "1/1:2 1/3:1 7/1:1"),
    (("kind low x:-99:99", "tally t all x", "write a low 5", "write a low -12", "write a low 10"), "table t",
     "-12:1 5:1 10:1"),
)
REFUSED = (
    ((), "kind send", "taken"),
    ((), "kind x a:0:1 a:0:1", "taken"),
    (EIGHT_KINDS, "kind x", "full"),
    (EIGHT_KINDS, "kind idle", "taken"),
    ((), "kind x a:0:1 b:0:1 c:0:1 d:0:1 e:0:1", "full"),
    ((), "kind x a:1:0", "badbounds"),
    ((), f"kind x a:0:{NINES}", "badbounds"),
    ((), f"kind x a:-{NINES}:0", "badbounds"),
    ((), "lane a over", "taken"),
    (SIX_LANES, "lane x stop", "full"),
    ((), "tick x 1", "nolane"),
    ((), "tick a -1", "badtime"),
    ((), "tick a 1000000", "badtime"),
    ((), f"tick a {NINES}", "badtime"),
    ((), "claim x send", "nolane"),
    ((), "claim a x", "nokind"),
    (("stop",), "claim a send", "stopped"),
    ((), "fill x 1", "nolane"),
    ((), "fill a 1", "noticket"),
    (("claim a send",), "fill a 1", "badvalue"),
    (("claim a send",), f"fill a {NINES} -{NINES}", "badvalue"),
    (("claim a send",), "fill a", "badvalue"),
    ((), "give x", "nolane"),
    ((), "give a", "noticket"),
    ((), "throw x", "nolane"),
    ((), "throw a", "noticket"),
    ((), "write x send 1 1", "nolane"),
    ((), "write a x 1 1", "nokind"),
    (("stop",), "write a send 99", "stopped"),
    ((), "write a send", "badvalue"),
    ((), "write a idle 0 0 0 0 0 0", "badvalue"),
    ((), "take x", "nolane"),
    ((), "resize x 1", "nolane"),
    ((), "resize a 1", "badsize"),
    ((), "resize a 17", "badsize"),
    ((), "resize a -2", "badsize"),
    (("resize a 3", "claim a send", ONE, ONE), "resize a 2", "busy"),
    ((), "sieve x all", "nolane"),
    ((), "sieve x some", "nolane"),
    ((), "sieve a some", "badtest"),
    ((), "sieve a -", "badtest"),
    ((), "sieve a IS:send", "badtest"),
    ((), "sieve a is:Send", "badtest"),
    ((), "sieve a size<05", "badtest"),
    ((), "sieve a size<1000000", "badtest"),
    ((), "sieve a not(not(not(not(not(all)))))", "badtest"),
    (FOUR_TALLIES, "tally t some a a", "taken"),
    (FOUR_TALLIES, "tally x some a a", "badtest"),
    (FOUR_TALLIES, "tally x all a a", "badkeys"),
    (FOUR_TALLIES, "tally x all a", "full"),
    ((), "tally t all a b c d e", "badkeys"),
    ((), "tally t ()", "badtest"),
    ((), "halt some", "badtest"),
    ((), "halt --", "badtest"),
    ((), "counts x", "nolane"),
    ((), "look x", "nolane"),
    ((), "table x", "notally"),
    ((), "table a", "notally"),
    (("undo",) * 4, "undo", "nothingleft"),
    ((), "redo", "nothingleft"),
)
# Each form once, with all words that are due and none that may be left out.
FORMS = (
    "kind x", "lane x over", "tick a 1", "claim a send", "fill a", "give a", "throw a", "write a send", "take a",
    "resize a 3", "sieve a all", "tally x all", "halt all", "stop", "go", "undo", "redo", "counts a", "look a",
    "table t",
)
# Forms that may have further words, with such a one.
LONGER = ("kind x a:0:1", "fill a 1", "write a send 1", "tally x all a")
NO_NAMES = ("A", "a1", "abcdefghi", "a-b", "1", "-", "aB", "a:b", "a\n", "a,b")
NO_NUMBERS = (
    "x", "-", "--1", "+1", "01", "00", "-0", "-01", "1.0", "1_0", "1-", "1,2", "9" * 31, "-" + "9" * 31, "1\n", "all",
)


def desk_of(*lines):
    """A desk, with pages for one event of the kind send each, that was told LINES and then these."""
    desk = Desk(pages=2, room=5)
    for line in LINES + lines:
        answer = desk.say(line)
        assert answer != "what" and not answer.startswith("no "), (line, answer)
    return desk


class Answers(unittest.TestCase):
    def test_the_lines_all_others_stand_behind(self):
        self.assertEqual(desk_of().recorder.done(), list(BASE))

    def test_deeds(self):
        for ahead, line, answer, deed in ANSWERS:
            with self.subTest(line=line, ahead=ahead):
                desk = desk_of(*ahead)
                many = len(desk.recorder.done())
                self.assertEqual(desk.say(line), answer)
                self.assertEqual(desk.recorder.done()[many:], [deed])

    def test_deeds_taken_back_and_done_again(self):
        for ahead, line, answer, deed in ANSWERS:
            with self.subTest(line=line, ahead=ahead):
                desk = desk_of(*ahead)
                first = shown_recorder(desk.recorder)
                desk.say(line)
                second = shown_recorder(desk.recorder)
                self.assertEqual(desk.say("undo"), "done")
                self.assertEqual(shown_recorder(desk.recorder), first)
                self.assertEqual(desk.say("redo"), "done")
                self.assertEqual(shown_recorder(desk.recorder), second)

    def test_questions(self):
        for ahead, line, answer in QUESTIONS:
            with self.subTest(line=line, ahead=ahead):
                desk = desk_of(*ahead)
                kept = shown_recorder(desk.recorder)
                self.assertEqual(desk.say(line), answer)
                self.assertEqual(shown_recorder(desk.recorder), kept)

    def test_refused(self):
        for ahead, line, word in REFUSED:
            with self.subTest(line=line, ahead=ahead):
                desk = desk_of(*ahead)
                kept = shown_recorder(desk.recorder)
                self.assertEqual(desk.say(line), f"no {word}")
                self.assertEqual(shown_recorder(desk.recorder), kept)

    def test_each_form_is_answered(self):
        words = {line.split(" ")[0] for line in FORMS}
        self.assertEqual({line.split(" ")[0] for ahead, line, answer, deed in ANSWERS}, words - {
            "undo", "redo", "counts", "look", "table"})
        self.assertEqual({line.split(" ")[0] for ahead, line, answer in QUESTIONS}, {"counts", "look", "table"})
        self.assertEqual({line.split(" ")[0] for ahead, line, word in REFUSED}, words - {"stop", "go"})
        desk = desk_of("tally t all")
        for line in FORMS + LONGER:
            self.assertNotEqual(desk.say(line), "what", line)

    def test_a_refused_line_lets_nothing_go(self):
        desk = desk_of("tick a 5", "undo")
        for line in ("take x", "claim a x", "what", "", "sieve a some", "counts a", "look x", "halt"):
            desk.say(line)
        self.assertEqual((desk.say("redo"), desk.recorder.now("a")), ("done", 5))
        self.assertEqual(desk.say("redo"), "no nothingleft")


class Lines(unittest.TestCase):
    def is_none(self, line):
        """A line is answered by what, and changes nothing."""
        desk = desk_of("tally t all", "tick a 1", "undo")
        kept = shown_recorder(desk.recorder)
        with self.subTest(line):
            self.assertEqual(desk.say(line), "what")
            self.assertEqual(shown_recorder(desk.recorder), kept)
            self.assertEqual(desk.say("redo"), "done")

    def test_first_words(self):
        for line in (
            "", "x", "what", "Kind x", "KIND x", "kinds", "lanes", "done", "now a", "whole", "twin", "looker a",
            "order",
            "pending a", "dropped t", "do stop", "event 0 0 a", "lost 1", "stop\n", "\n", "1", "-", "kind:x", "stop,go",
        ):
            self.is_none(line)

    def test_too_few_words(self):
        for line in FORMS:
            words = line.split(" ")
            for many in range(len(words)):
                self.is_none(" ".join(words[:many]))

    def test_too_many_words(self):
        for line in FORMS:
            if line.split(" ")[0] not in ("kind", "fill", "write", "tally"):
                for more in ("x", "1", "over", "all", "-"):
                    self.is_none(f"{line} {more}")

    def test_empty_words(self):
        for line in FORMS + LONGER:
            words = line.split(" ")
            for at in range(len(words) + 1):
                self.is_none(" ".join(words[:at] + [""] + words[at:]))
            for at in range(len(words)):
                self.is_none(" ".join(words[:at] + [""] + words[at + 1:]))
        for line in (" ", "  ", "   "):
            self.is_none(line)

    def test_no_names(self):
        for name in NO_NAMES:
            for line in (
                "kind {}", "kind x {}:0:1", "kind x a:0:1 {}:0:1", "lane {} over", "tick {} 1", "claim {} send",
                "claim a {}", "fill {}", "give {}", "throw {}", "write {} send 1 1", "write a {} 1 1", "take {}",
                "resize {} 3", "sieve {} all", "tally {} all", "tally x all {}", "tally x all a {}", "counts {}",
                "look {}",
                "table {}",
            ):
                self.is_none(line.format(name))

    def test_no_numbers(self):
        for number in NO_NUMBERS:
            for line in (
                "kind x a:{}:1", "kind x a:0:{}", "tick a {}", "fill a {}", "fill a 1 {}", "write a send {} 1",
                "write a send 1 {}", "resize a {}",
            ):
                self.is_none(line.format(number))

    def test_thirty_figures(self):
        desk = desk_of("claim a send")
        for number in (NINES, "-" + NINES):
            for line, answer in (
                ("kind x a:{}:1", "no badbounds"), ("tick a {}", "no badtime"), ("fill a {}", "no badvalue"),
                ("write a send 1 {}", "no badvalue"), ("resize a {}", "no badsize"),
            ):
                self.assertEqual(desk.say(line.format(number)), answer)
            for line in ("kind x a:{}9:1", "tick a {}9", "fill a {}9", "write a send 1 {}9", "resize a {}9"):
                self.assertEqual(desk.say(line.format(number)), "what")

    def test_no_fields(self):
        for field in ("a", "a:", "a:0", "a:0:", ":0:1", "a::1", "a:0:1:2", "a:0:1:", ":a:0:1", "::", "a 0 1", "a,0,1",
                      "0:1:a"):
            self.is_none(f"kind x {field}")

    def test_neither_over_nor_stop(self):
        for word in ("Over", "miss", "true", "True", "over,", "go", "1", "-"):
            self.is_none(f"lane x {word}")

    def test_wrong_words_ahead_of_refusals(self):
        for line in ("tick x 01", "claim x X", "fill x y", "sieve X some", "tally t some A", "resize x y",
                     "kind send a:0"):
            self.is_none(line)

    def test_texts_that_no_test_has(self):
        desk = desk_of()
        for text in ("ALL", "is", "is:", "size<", "size<5)", "not()", "and(all)", "()", "all,all", "-", "a:0:1",
                     "size=+1"):
            self.assertEqual(desk.say(f"sieve a {text}"), "no badtest")
            self.assertEqual(desk.say(f"tally t {text}"), "no badtest")
            if text != "-":
                self.assertEqual(desk.say(f"halt {text}"), "no badtest")
        for test in NO_TESTS:
            # A tuple as Python writes it is a text of no test, and has blanks within for the most part.
            self.assertIn(desk.say(f"halt {test!r}"), ("what", "no badtest"))


class Desks(unittest.TestCase):
    def test_the_very_recorder(self):
        desk = Desk()
        recorder = desk.recorder
        self.assertIsInstance(recorder, Recorder)
        recorder.kind("idle")
        recorder.lane("a")
        self.assertEqual(desk.say("write a idle"), "given")
        self.assertEqual(len(recorder), 1)
        recorder.undo()
        self.assertEqual(desk.say("look a"), "none")
        self.assertIs(desk.recorder, recorder)

    def test_sizes(self):
        for pages, room in ((2, 5), (16, 12)):
            desk = Desk(pages=pages, room=room)
            desk.say("kind idle")
            desk.say("lane a stop")
            answers = [desk.say("write a idle") for turn in range(pages * room + 1)]
            self.assertEqual(answers, ["given"] * (pages * room) + ["missed"])
        desk = Desk()
        desk.say("kind idle")
        desk.say("lane a stop")
        self.assertEqual([desk.say("write a idle") for turn in range(33)], ["given"] * 32 + ["missed"])

    def test_sizes_that_are_not(self):
        for pages, room in ((1, 8), (17, 8), (4, 4), (4, 13)):
            with self.subTest(pages=pages, room=room), self.assertRaises(BadSize):
                Desk(pages=pages, room=room)

    def test_desks_made_apart(self):
        one, other = Desk(), Desk()
        one.say("lane a over")
        self.assertEqual((one.say("look a"), other.say("look a")), ("none", "no nolane"))

    def test_a_whole_talk(self):
        desk = Desk(pages=2, room=5)
        talk = (
            ("kind send size:0:9 to:1:4", "done"), ("lane a over", "done"), ("tally t all to", "done"),
            ("halt size=9", "done"), ("claim a send", "1"), ("tick a 4", "done"), ("write a send 3 2", "given"),
            ("look a", "none"), ("fill a 5 4", "done"), ("give a", "given"),
            ("look a", "event 0 0 send 5 4, event 1 4 send 3 2"), ("table t", "2:1 4:1"), ("take a",
            "event 0 0 send 5 4"),
            ("write a send 9 1", "given"), ("write a send 1 1", "no stopped"), ("counts a", "3 0 0 0"), ("undo",
            "done"),
            ("write a send 1 1", "given"), ("redo", "no nothingleft"), ("table t", "1:1 2:1 4:1"),
        )
        for line, answer in talk:
            self.assertEqual(desk.say(line), answer, line)


if __name__ == "__main__":
    unittest.main()
