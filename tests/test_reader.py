"""Reading lines of a desk: each line of the tables, bent at each word."""

import unittest

from alleyes.errors import BadText
from alleyes.facts import Fact, Null, Tie
from alleyes.lights import Light
from alleyes.pictures import Picture
from alleyes.reader import ASKS, DEEDS, read_line
from alleyes.sayings import Saying
from alleyes.steps import Mark, Step
from tests.support import NO_TEXTS, Checks
from tests.test_standing import TILE, UP

FACTS = ("null one.a 1 one.b -1 one.c 1 one.d -1", "along one.a -1 one.b 1 | right one", "sameway up two | one.a -1 one.b 1/2 one.c 1/2",
         "inplane one.a 1 one.b -1 | right one | up two", "upright one.a 1 one.b -1 | one.c 1 one.d -1",
         "lengths right one | up one | 2 | 1/3",
         "foot one | 1 | -2/3", "far two | 18", "tie one.a | two.p")
SAYINGS = (*FACTS[:6], "deeper one.a | one.b", "before one.a -1 one.d 2", "onside one.c | one.a | right one | up one | one.d",
           "atleast one.a | one.b | one.c | -1/2 | right one | one.a 1 one.b -1", "sharp right one | up one",
           "blunt up one | one.a 1 one.b -1",
           "longer right one | up one | 2 | 1/3", "shorter right one | up one | 2 | 1/3")
LIGHTS = ("sun one.t one.b / one.u one.c", "lamp right one | one.a 1 one.b -1 | one.a | one.b one.e / one.c one.f",
          "water one.a | right one | up one | up two | one.t one.r", "mirror one.a | right one | up one | one.t one.r / one.u one.s")
PICTURES = ("one : a 0 0 / b 6 0 / c 4 2 / d 2 2", "x9 : p 1/2 -3", "null : a 0 0")
STEPS = ("one.a -1 one.d 1", "right one", "up two", "one.a -1 one.b 1/2 one.c 1/2")
MARKS = ("one.a -1 one.d 2", "one.a 1")
LINES = {
    "put": [(text, (Picture.read(text),)) for text in PICTURES],
    "drop": [("one", ("one",)), ("x9", ("x9",))],
    "tell": [(text, (Fact.read(text),)) for text in FACTS],
    "light": [(text, (Light.read(text),)) for text in LIGHTS],
    "strike": [("0", (0,)), ("0 2", (0, 2)), ("7 7 0", (7, 7, 0)), ("9" * 60, (int("9" * 60),))],
    "names": [("", ())],
    "show": [("one", ("one",))],
    "fact": [("3", (3,)), ("0", (0,))],
    "facts": [("", ())],
    "book": [("", ())],
    "used": [("", ())],
    "waiting": [("", ())],
    "try": [(text, (Fact.read(text),)) for text in FACTS],
    "word": [(text, (Saying.read(text),)) for text in SAYINGS],
    "way": [(text, (Step.read(text),)) for text in STEPS],
    "together": [(f"{text} | {other}", (Step.read(text), Step.read(other))) for text, other in zip(STEPS, STEPS[1:] + STEPS[:1])],
    "depth": [("one.c one.a", ("one.c", "one.a")), ("one.c one.c", ("one.c", "one.c")), ("one.a two.b", ("one.a", "two.b"))],
    "drawn": [(text, (Mark.read(text),)) for text in MARKS],
    "eye": [("one", ("one",))],
    "lacking": [("", ())],
    "times": [("one.a one.b one.e", ("one.a", "one.b", "one.e"))],
    "clash": [("", ())],
}


def line_of(word, text):
    return f"{word} {text}" if text else word


ALL_LINES = [line_of(word, text) for word, told in LINES.items() for text, _ in told]


class ReaderTest(unittest.TestCase, Checks):
    def test_tables(self):
        self.assertEqual(DEEDS, ("put", "drop", "tell", "light", "strike"))
        self.assertEqual(ASKS, ("names", "show", "fact", "facts", "book", "used", "waiting", "try", "word", "way", "together", "depth",
                                "drawn",
                                "eye", "lacking", "times", "clash"))
        self.assertEqual(list(LINES), [*DEEDS, *ASKS])

    def test_lines(self):
        self.assertEqual(read_line(line="strike 0 2"), ("strike", 0, 2))
        for word, told in LINES.items():
            for text, parts in told:
                found = read_line(line_of(word, text))
                self.assertIs(type(found), tuple)
                self.assertEqual(found, (word, *parts))
                self.assertEqual([type(part) for part in found], [str, *[type(part) for part in parts]])
        self.assertEqual([read_line("tell null one.a 1 one.b -1 one.c 1 one.d -1"), read_line("way up one"),
                          read_line("try tie one.a | two.p")],
                         [("tell", Null(TILE)), ("way", UP), ("try", Tie("one.a", "two.p"))])

    def test_bent_lines(self):
        """Each word made junk, or empty, is told by its index in the line."""
        for line in ALL_LINES:
            words = line.split(" ")
            for at in range(len(words)):
                for junk in ("?", "", "Z"):
                    self.bad_text(at, read_line, " ".join([*words[:at], junk, *words[at + 1:]]))
            for more in (" ?", " ", " |", " ;", " names"):
                self.bad_text(len(words), read_line, line + more)

    def test_missing_words(self):
        """Beginnings lack a word; what ends behind a ratio of terms that do not add up is told at its last word."""
        for line in ALL_LINES:
            words = line.split(" ")
            for many in range(1, len(words)):
                beginning = " ".join(words[:many])
                kind = words[0]
                text = " ".join(words[1:many])
                wanted = self.told_at(kind, text, many)
                if wanted is not None:
                    self.bad_text(wanted, read_line, beginning)
                else:
                    self.assertEqual(read_line(beginning)[0], kind)

    def told_at(self, kind, text, many):
        """Where the text of a beginning is refused by the read of its class; None where it is right."""
        if kind in ("drop", "strike", "show", "fact", "eye", "depth", "times"):
            if kind == "strike" and many > 1:
                return None
            return many
        if kind == "together":
            # As of a fact of two steps.
            return self.refused(Fact.read, f"upright {text}" if text else "upright")
        if many == 1:
            return 1
        call = {"put": Picture.read, "tell": Fact.read, "try": Fact.read, "light": Light.read, "word": Saying.read, "way": Step.read,
                "drawn": Mark.read}[kind]
        refused = self.refused(call, text)
        return None if refused is None else refused + 1

    def refused(self, call, text):
        try:
            call(text)
        except BadText as why:
            return why.word
        return None

    def test_words_that_cannot_stand(self):
        for line, word in (("", 0), (" ", 0), ("puts", 0), ("Names", 0), ("names ", 1), (" names", 0), ("names one", 1), ("book 0", 1),
                           ("put", 1), ("put one", 2),
                           ("put one : a 0", 5), ("put one : a 0 0 / a 1 1", 7), ("put one : a 0 0 / b 0 0", 9),
                           ("put One : a 0 0", 1), ("drop", 1), ("drop one.a", 1),
                           ("drop one two", 2), ("show 1", 1), ("fact", 1), ("fact -1", 1), ("fact 1/2", 1), ("fact 01", 1),
                           ("fact +1", 1), ("fact -0", 1), ("fact one", 1),
                           ("fact 1 2", 2), ("fact " + "1" * 61, 1), ("strike", 1), ("strike 0 ", 2), ("strike 0 x", 2),
                           ("strike 0 -1 2", 2), ("tell", 1), ("tell deeper one.a | one.b", 1),
                           ("tell foot one | 1", 5), ("word foot one | 1 | 2", 1), ("word tie one.a | two.a", 1),
                           ("word deeper one.a | two.a", 4), ("try sharp right one | up one", 1),
                           ("light sun", 2), ("light sun one.a one.a", 3), ("light moon one.a one.b", 1), ("way", 1),
                           ("way one.a 1 one.b 1", 4), ("way one.a 1", 2),
                           ("way one.a 1 one.b -1 | right one", 5), ("way one.b 1 one.a -1", 3), ("way right one.a", 2),
                           ("together right one", 3), ("together right one |", 4),
                           ("together one.a 1 one.b 1 | right one", 5), ("together right one | one.a 1 one.b 1", 7),
                           ("together right one | up one | up two", 6),
                           ("together right one ; up one", 3), ("depth one.a", 2), ("depth one.a one.b one.c", 3),
                           ("depth one.a one", 2), ("drawn one.a 2", 2),
                           ("drawn one.a 1 one.b 1", 4), ("drawn one.a 0", 2), ("drawn right one", 1), ("times one.a one.b", 3),
                           ("times one.a one.b one", 3), ("eye", 1), ("eye one.a", 1),
                           ("tell null one.a 1 one.b 1", 5), ("tell along one.a 1 one.b 1 | right one", 6),
                           ("tell null one.a 1 one.b -1 ;", 6), ("lacking x", 1)):
            self.bad_text(word, read_line, line)
        for value in NO_TEXTS:
            self.bad_text(0, read_line, value)

    def test_long_texts(self):
        terms = [f"one.p{number}" for number in range(10, 23)]
        twelve = " ".join(f"{label} {1 if number else -11}" for number, label in enumerate(terms[:12]))
        self.assertEqual(len(read_line(f"way {twelve}")[1].terms), 12)
        self.bad_text(25, read_line, f"way {twelve} one.p22 1")
        points = " / ".join(f"p{number} {number} 0" for number in range(10, 50))
        self.assertEqual(len(read_line(f"put one : {points}")[1]), 40)
        self.bad_text(3 + 4 * 40 - 1, read_line, f"put one : {points} / p50 50 0")


if __name__ == "__main__":
    unittest.main()
