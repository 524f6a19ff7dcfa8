"""Steps and marks: terms, sums, texts."""

import unittest

from alleyes.errors import BadMark, BadNumber, BadStep, NoLabel, NoPicture, TooMany, TwoPictures
from alleyes.ratios import Ratio
from alleyes.steps import Mark, Step
from tests.support import NO_LABELS, NO_NAMES, NO_RATIOS, NO_TEXTS, Checks, Odd

TILE = Step({"one.a": 1, "one.b": -1, "one.c": 1, "one.d": -1})
FAR = Step.between("one.a", "one.d")
NEXT = Mark({"one.d": 2, "one.a": -1})
RIGHT, UP = Step.right_of("one"), Step.up_of("one")
LETTERS = "abcdefghijklmnopqrstuvwxyz"


def long_terms(many, total):
    """So many terms of one picture that add up to the total."""
    terms = {"one." + letter: 1 for letter in LETTERS[:many]}
    terms["one.a"] = total - many + 1
    return terms


def long_text(many, total):
    return " ".join(f"{label} {ratio}" for label, ratio in long_terms(many, total).items())


class StepsTest(unittest.TestCase, Checks):
    def test_example(self):
        found = [str(TILE), FAR.is_plain, str(TILE + FAR), str(NEXT - Mark.of_point("one.d")), str(UP)]
        self.assertEqual(found, ["one.a 1 one.b -1 one.c 1 one.d -1", True, "one.b -1 one.c 1", "one.a -1 one.d 1",
                                 "up one"])

    def test_attributes(self):
        step = Step({"one.d": Ratio(1, 2), "one.z": 0, "one.a": Ratio(-1, 2), "two.a": 0})
        self.assertEqual(step.terms, (("one.a", Ratio(-1, 2)), ("one.d", Ratio(1, 2))))
        self.assertEqual([step.side, step.picture_name, step.is_plain], [None, "one", False])
        self.all_ratios([ratio for _, ratio in TILE.terms])
        for made, side in ((Step.right_of("ab1"), "right"), (Step.up_of(name="ab1"), "up")):
            self.assertEqual([made.terms, made.side, made.picture_name, made.is_plain], [(), side, "ab1", False])
        self.assertEqual(str(Step.right_of("abcdefghijkl")), "right abcdefghijkl")

    def test_plain(self):
        self.assertEqual([Step.between("one.b", "one.a").is_plain, (FAR * 2).is_plain, TILE.is_plain, RIGHT.is_plain],
                         [True, False, False, False])
        self.assertEqual(Step.between(one="one.b", other="one.a").terms, (("one.a", 1), ("one.b", -1)))
        self.assertEqual([(-FAR).is_plain, Step({"one.a": -1, "one.b": Ratio(1, 2), "one.c": Ratio(1, 2)}).is_plain],
                         [True, False])

    def test_what_is_passed_is_copied(self):
        terms = {"one.b": 1, "one.a": -1, "one.c": 0}
        step = Step(terms)
        terms["one.b"] = 4
        self.assertEqual([str(step), terms], ["one.a -1 one.b 1", {"one.b": 4, "one.a": -1, "one.c": 0}])

    def test_wrong_terms(self):
        for kind, error in ((Step, BadStep), (Mark, BadMark)):
            for value in (None, True, 3, "one.a 1", [], [("one.a", 1)], Odd(), FAR, NEXT):
                self.bad(error, "terms", kind, value)
            for label in NO_LABELS:
                if not isinstance(label, (list, dict)):
                    self.bad(error, "terms", kind, {"one.a": 1, "two.b": -1, label: 1})
            for ratio in NO_RATIOS:
                self.bad(error, "terms", kind, {"one.a": 1, "two.b": ratio})

    def test_order_of_errors(self):
        self.raised(TwoPictures, {"one": "one", "other": "three"}, Step, {"two.a": 3, "three.a": 4, "one.a": 1})
        self.raised(TwoPictures, {"one": "one", "other": "two"}, Mark, {"two.a": 3, "one.b": 4, "one.a": 1})
        self.bad(BadStep, "sum", Step, {})
        self.bad(BadStep, "sum", Step, {"one.a": 0, "two.b": 0})
        self.bad(BadStep, "sum", Step, {"one.a": 1})
        self.bad(BadStep, "sum", Step, {"one.a": 1, "one.b": 1})
        self.bad(BadMark, "sum", Mark, {})
        self.bad(BadMark, "sum", Mark, {"one.a": 0})
        self.bad(BadMark, "sum", Mark, {"one.a": 1, "one.b": -1})
        self.bad(BadStep, "sum", Step, long_terms(13, 1))
        self.bad(BadMark, "sum", Mark, long_terms(13, 0))
        self.raised(TooMany, {"what": "terms", "most": 12}, Step, long_terms(13, 0))
        self.raised(TooMany, {"what": "terms", "most": 12}, Mark, long_terms(13, 1))

    def test_twelve_terms(self):
        self.assertEqual([len(Step(long_terms(12, 0)).terms), len(Mark(long_terms(12, 1)).terms)], [12, 12])
        self.assertEqual(len(Step({**long_terms(12, 0), "one.z": 0, "two.z": Ratio(0)}).terms), 12)

    def test_static_errors(self):
        for label in NO_LABELS:
            self.raised(NoLabel, {"name": label}, Step.between, label, None)
            self.raised(NoLabel, {"name": label}, Step.between, "one.a", label)
            self.raised(NoLabel, {"name": label}, Mark.of_point, label)
            self.raised(NoLabel, {"name": label}, Mark.on_way, label, None, None)
            self.raised(NoLabel, {"name": label}, Mark.on_way, "one.a", label, None)
        for name in NO_NAMES:
            self.raised(NoPicture, {"name": name}, Step.right_of, name)
            self.raised(NoPicture, {"name": name}, Step.up_of, name)
        self.raised(TwoPictures, {"one": "one", "other": "two"}, Step.between, "two.a", "one.a")
        self.bad(BadStep, "sum", Step.between, "one.a", "one.a")

    def test_step_sums(self):
        self.assertEqual(str(FAR + TILE), "one.b -1 one.c 1")
        self.assertEqual(str(TILE - FAR), "one.a 2 one.b -1 one.c 1 one.d -2")
        self.assertEqual([str(-FAR), str(FAR * Ratio(-3, 2))], ["one.a 1 one.d -1", "one.a 3/2 one.d -3/2"])
        self.all_ratios([ratio for step in (TILE - FAR, -FAR, FAR * 3) for _, ratio in step.terms])
        self.assertEqual([str(TILE), str(FAR)], ["one.a 1 one.b -1 one.c 1 one.d -1", "one.a -1 one.d 1"])

    def test_step_errors(self):
        for value in (None, True, 1, "one.a", {}, NEXT, Odd()):
            for call in (lambda: FAR + value, lambda: FAR - value, lambda: RIGHT + value, lambda: UP - value,
                         lambda: NEXT + value):
                self.bad(BadStep, "other", call)
        for value in NO_RATIOS:
            self.bad(BadNumber, "ratio", lambda: FAR * value)
            self.bad(BadNumber, "ratio", lambda: RIGHT * value)
        there = Step.right_of("two")
        for call in (lambda: FAR + RIGHT, lambda: FAR - UP, lambda: RIGHT + FAR, lambda: UP - FAR, lambda: -RIGHT,
                     lambda: UP * 2, lambda: UP * 0, lambda: FAR + there, lambda: there + FAR, lambda: NEXT + RIGHT):
            self.bad(BadStep, "side", call)
        two = Step.between("two.a", "two.b")
        self.raised(TwoPictures, {"one": "two", "other": "one"}, lambda: two + FAR)
        self.raised(TwoPictures, {"one": "one", "other": "two"}, lambda: FAR - two)
        for call in (lambda: FAR - FAR, lambda: FAR + -FAR, lambda: FAR * 0, lambda: FAR * Ratio(0)):
            self.bad(BadStep, "sum", call)
        more = Step({"one.y": 1, "one.z": -1})
        for call in (lambda: Step(long_terms(12, 0)) + more, lambda: Mark(long_terms(12, 1)) + more,
                     lambda: Mark(long_terms(12, 1)) - Mark.of_point("one.z")):
            self.raised(TooMany, {"what": "terms", "most": 12}, call)

    def test_marks(self):
        self.assertEqual([NEXT.terms, NEXT.picture_name], [(("one.a", -1), ("one.d", 2)), "one"])
        self.assertEqual([str(Mark.of_point(label="one.a")), str(Mark({"one.a": 1, "two.b": 0}))], ["one.a 1"] * 2)
        self.assertEqual(str(Mark.on_way("one.b", "one.a", Ratio(1, 3))), "one.a 1/3 one.b 2/3")
        self.assertEqual([str(Mark.on_way("one.b", "one.a", 0)), str(Mark.on_way("one.b", "one.a", 1)),
                          str(Mark.on_way(one="one.b", other="one.b", ratio=5))], ["one.b 1", "one.a 1", "one.b 1"])
        self.assertEqual([str(NEXT + FAR), str(NEXT - Mark.of_point("one.a"))],
                         ["one.a -2 one.d 3", "one.a -2 one.d 2"])
        self.assertIs(type(NEXT + FAR), Mark)
        self.assertIs(type(NEXT - Mark.of_point("one.a")), Step)
        self.all_ratios([ratio for mark in (NEXT, NEXT + FAR, Mark.on_way("one.a", "one.b", 3))
                         for _, ratio in mark.terms])

    def test_mark_errors(self):
        for value in NO_RATIOS:
            self.bad(BadNumber, "ratio", Mark.on_way, "one.a", "two.a", value)
        self.raised(TwoPictures, {"one": "one", "other": "two"}, Mark.on_way, "two.a", "one.a", Ratio(1, 2))
        for value in (None, 1, "one.a 1", FAR, {}, Odd()):
            self.bad(BadMark, "other", lambda: NEXT - value)
        there = Mark.of_point("two.a")
        self.raised(TwoPictures, {"one": "one", "other": "two"}, lambda: NEXT - there)
        self.raised(TwoPictures, {"one": "two", "other": "one"}, lambda: there - NEXT)
        self.raised(TwoPictures, {"one": "two", "other": "one"}, lambda: there + FAR)
        self.bad(BadStep, "sum", lambda: NEXT - NEXT)

    def test_equality(self):
        self.assertEqual([FAR == Step({"one.d": 1, "one.a": -1, "one.c": 0}), FAR == TILE, FAR != FAR], [True, False, False])
        self.assertEqual([RIGHT == Step.right_of("one"), RIGHT == UP, RIGHT == Step.right_of("two"), RIGHT == FAR],
                         [True, False, False, False])
        self.assertEqual([NEXT == Mark({"one.a": -1, "one.d": Ratio(2)}), NEXT == Mark.of_point("one.a"), NEXT != NEXT],
                         [True, False, False])
        for value in (None, 0, "one.a -1 one.d 1", (), Odd(), NEXT):
            self.assertEqual([FAR == value, FAR != value], [False, True])
        for value in (None, 0, "one.a 1", (), Odd(), FAR):
            self.assertEqual([NEXT == value, NEXT != value], [False, True])


class StepTextsTest(unittest.TestCase, Checks):
    def test_texts(self):
        for text in ("right one", "up a1", "one.a -1 one.b 1", str(TILE), "one.a 1/2 one.b -1/2", long_text(12, 0)):
            read = Step.read(text)
            self.assertEqual(str(read), text)
            self.assertIs(type(read), Step)
        self.assertEqual([Step.read("up one") == UP, Step.read(str(TILE)) == TILE], [True, True])
        for text in ("one.a 1", "one.a -1 one.d 2", "one.a 1/2 one.b 1/2", long_text(12, 1)):
            self.assertEqual(str(Mark.read(text)), text)
        self.assertEqual(Mark.read("one.a -1 one.d 2"), NEXT)

    def test_texts_bent_alike(self):
        for text, word in (("", 0), ("x", 0), ("one.a", 1), ("one.a x", 1), ("one.a 0", 1), ("one.a 1 one.a -1", 2),
                           ("one.b 1 one.a -1", 2), ("one.a 1 two.b -1", 2), ("one.a 1 one.b", 3), ("0", 0),
                           ("one.a 1 one.b x", 3), ("one.a 1 one.b 0", 3), ("one.a 1 one.b -1 ", 4), (" ", 0),
                           ("one.a 1 one.b -1 one.c", 5), ("one.a  1", 1), ("one.a 1 two.b x", 2),
                           ("one.a " + "1" * 61 + " one.b 1", 1), ("one.a 2/2", 1), ("left one", 0),
                           ("one.a 1 one.b 2 up one", 4)):
            self.bad_text(word, Step.read, text)
            self.bad_text(word, Mark.read, text)
        for value in NO_TEXTS:
            self.bad_text(0, Step.read, value)
            self.bad_text(0, Mark.read, value)

    def test_thirteen_terms(self):
        self.bad_text(24, Step.read, long_text(13, 0))
        self.bad_text(24, Mark.read, long_text(13, 1))
        self.bad_text(24, Step.read, long_text(12, 0) + " one.z")

    def test_sums_in_texts(self):
        for text, word in (("one.a 1", 1), ("one.a 1 one.b 1", 3), ("one.a 1 one.b -1 one.c 1", 5)):
            self.bad_text(word, Step.read, text)
        for text, word in (("one.a 2", 1), ("one.a 1 one.b -1", 3), ("one.a 1 one.b -1 one.c 2", 5)):
            self.bad_text(word, Mark.read, text)

    def test_sides_in_texts(self):
        for text, word in (("right", 1), ("up", 1), ("right One", 1), ("right one.a", 1), ("up one two", 2),
                           ("up one ", 2), ("right  one", 1), ("up abcdefghijklm", 1)):
            self.bad_text(word, Step.read, text)
        for text in ("right one", "up one", "up"):
            self.bad_text(0, Mark.read, text)


if __name__ == "__main__":
    unittest.main()
