"""Facts: their parts, errors, texts."""

import unittest

from alleyes.errors import BadFact
from alleyes.facts import Along, Fact, Far, Foot, InPlane, Lengths, Null, SameWay, Tie, Upright
from alleyes.ratios import Ratio
from alleyes.rows import Row
from alleyes.steps import Mark, Step
from tests.support import NO_LABELS, NO_NAMES, NO_RATIOS, Checks, Odd

AB, AD = Step.between("one.a", "one.b"), Step.between("one.a", "one.d")
RIGHT, UP, OTHER_UP = Step.right_of("one"), Step.up_of("one"), Step.up_of("two")
TILE = Step({"one.a": 1, "one.b": -1, "one.c": 1, "one.d": -1})
NO_STEPS = (None, True, 1, "right one", [], {}, Odd(), Mark.of_point("one.a"), Row({}), Null(TILE), (AB,))
ALL = [Null(TILE), Along(AB, RIGHT), SameWay(UP, AB), InPlane(TILE, AB, UP), Upright(RIGHT, UP), Lengths(AB, AD, 4, Ratio(1, 3)),
       Foot("one", 3, Ratio(-1, 2)), Far("one", 18), Tie("one.a", "two.p")]
TEXTS = ["null one.a 1 one.b -1 one.c 1 one.d -1", "along one.a -1 one.b 1 | right one", "sameway up one | one.a -1 one.b 1",
         "inplane one.a 1 one.b -1 one.c 1 one.d -1 | one.a -1 one.b 1 | up one", "upright right one | up one",
         "lengths one.a -1 one.b 1 | one.a -1 one.d 1 | 4 | 1/3", "foot one | 3 | -1/2", "far one | 18", "tie one.a | two.p"]


class FactsTest(unittest.TestCase, Checks):
    def test_example(self):
        self.assertEqual([str(Along(AB, Step.right_of("one"))), Fact.read("tie one.a | two.p") == Tie("one.a", "two.p")],
                         ["along one.a -1 one.b 1 | right one", True])

    def test_attributes(self):
        self.assertEqual([fact.steps for fact in ALL], [(TILE,), (AB, RIGHT), (UP, AB), (TILE, AB, UP), (RIGHT, UP), (AB, AD),
                                                        (), (), ()])
        null, along, same, plane, upright, lengths, foot, far, tie = ALL
        self.assertEqual([null.step, along.one, along.other, same.one, same.other], [TILE, AB, RIGHT, UP, AB])
        self.assertEqual([plane.step, plane.one, plane.other, upright.one, upright.other], [TILE, AB, UP, RIGHT, UP])
        self.assertEqual([lengths.one, lengths.other, lengths.p, lengths.q], [AB, AD, 4, Ratio(1, 3)])
        self.assertEqual([foot.name, foot.a, foot.b, far.name, far.s, tie.one, tie.other],
                         ["one", 3, Ratio(-1, 2), "one", 18, "one.a", "two.p"])
        self.all_ratios([lengths.p, lengths.q, foot.a, foot.b, far.s, Lengths(AB, AD).p, Lengths(AB, AD).q])
        for fact in ALL:
            self.assertIsInstance(fact, Fact)
            self.assertIs(type(fact.steps), tuple)

    def test_by_name(self):
        named = [Null(step=TILE), Along(one=AB, other=RIGHT), SameWay(one=UP, other=AB), InPlane(step=TILE, one=AB, other=UP),
                 Upright(one=RIGHT, other=UP), Lengths(one=AB, other=AD, q=Ratio(1, 3), p=4), Foot(name="one", a=3, b=Ratio(-1, 2)),
                 Far(name="one", s=18), Tie(one="one.a", other="two.p")]
        self.assertEqual(named, ALL)
        self.assertEqual(Lengths(AB, AD), Lengths(AB, AD, 1, 1))

    def test_equal(self):
        for at, fact in enumerate(ALL):
            for k, other in enumerate(ALL):
                self.assertEqual([fact == other, fact != other], [at == k, at != k])
            self.assertFalse(fact == str(fact) or fact == fact.steps or fact is None)
        self.assertFalse(Along(AB, AD) == SameWay(AB, AD) or Along(AB, AD) == Upright(AB, AD) or Along(AB, AD) == Along(AD, AB))
        self.assertFalse(Lengths(AB, AD, 1, 2) == Lengths(AB, AD, 2, 4) or Foot("one", 1, 2) == Foot("one", 1, 3))
        self.assertEqual(Foot("one", Ratio(1), 2), Foot("one", 1, Ratio(2)))
        others = [Null(AB), Along(AB, UP), SameWay(UP, AD), InPlane(TILE, AB, AD), Upright(UP, RIGHT), Lengths(AB, AD, 4, Ratio(1, 4)),
                  Foot("one", 4, Ratio(-1, 2)), Far("two", 18), Tie("one.a", "two.q")]
        for fact, other in zip(ALL, others):
            self.assertTrue(fact != other and not fact == other)

    def test_steps(self):
        for value in NO_STEPS:
            self.bad(BadFact, "step", Null, value)
            self.bad(BadFact, "step", InPlane, value, None, None)
            self.bad(BadFact, "one", InPlane, TILE, value, None)
            self.bad(BadFact, "other", InPlane, TILE, AB, value)
            for kind in (Along, SameWay, Upright, Lengths):
                self.bad(BadFact, "one", kind, value, None)
                self.bad(BadFact, "other", kind, AB, value)
        for side in (RIGHT, UP):
            self.bad(BadFact, "step", Null, side)
            self.bad(BadFact, "step", InPlane, side, AB, AD)
            for kind in (Along, SameWay):
                self.bad(BadFact, "other", kind, side, OTHER_UP)
                self.bad(BadFact, "other", kind, side, side)
            self.assertEqual(Upright(side, OTHER_UP).steps, (side, OTHER_UP))
            self.assertEqual(InPlane(AB, side, OTHER_UP).steps, (AB, side, OTHER_UP))

    def test_numbers(self):
        for value in (*NO_RATIOS, 0, -1, Ratio(-1, 2), Ratio(0)):
            self.bad(BadFact, "p", Lengths, AB, AD, value, None)
            self.bad(BadFact, "q", Lengths, AB, AD, 1, value)
        for value in NO_RATIOS:
            self.bad(BadFact, "a", Foot, "one", value, None)
            self.bad(BadFact, "b", Foot, "one", 0, value)
            self.bad(BadFact, "s", Far, "one", value)
        for value in NO_NAMES:
            self.bad(BadFact, "name", Foot, value, None, None)
            self.bad(BadFact, "name", Far, value, None)
        self.assertEqual(Far("one", -3).s, -3)

    def test_ties(self):
        for value in NO_LABELS:
            self.bad(BadFact, "one", Tie, value, value)
            self.bad(BadFact, "other", Tie, "one.a", value)
        self.bad(BadFact, "other", Tie, "one.a", "one.b")
        self.bad(BadFact, "other", Tie, "one.a", "one.a")

    def test_texts(self):
        self.assertEqual([str(fact) for fact in ALL], TEXTS)
        for fact, text in zip(ALL, TEXTS):
            self.assertEqual(Fact.read(text), fact)
            self.assertIs(type(Fact.read(text)), type(fact))
            self.bad_words(Fact.read, text)

    def test_beginnings(self):
        self.bad_beginnings(Fact.read, TEXTS[0], (3, 7), (5,))
        self.bad_beginnings(Fact.read, TEXTS[1], (3,))
        self.bad_beginnings(Fact.read, TEXTS[2], (6,))
        self.bad_beginnings(Fact.read, TEXTS[3], (3, 7, 12))
        self.bad_beginnings(Fact.read, TEXTS[5], (3, 8))
        for text in (TEXTS[4], TEXTS[6], TEXTS[7], TEXTS[8]):
            self.bad_beginnings(Fact.read, text)

    def test_wrong_words(self):
        for text, word in (("null", 1), ("Null one.a 1 one.b -1", 0), ("deeper one.a | one.b", 0), ("null right one", 1),
                           ("inplane up one | right one | up one", 1), ("along right one | up one", 4),
                           ("sameway up one | right two", 4), ("along right one | one.a 1 one.b -1 | 1", 8),
                           ("null one.a 1 one.b 1", 4), ("along one.a 1 one.b 1 | right one", 5),
                           ("upright one.a 1 one.b -1 | one.a 1 one.b -2", 9), ("upright one.a 1 two.b -1 | right one", 3),
                           ("null one.b 1 one.a -1", 3), ("null one.a 0 one.b -1", 2), ("null one.a 1 one.a -1", 3),
                           ("lengths right one | up one | 0 | 1", 7), ("lengths right one | up one | 1 | -1", 9),
                           ("lengths right one | up one | 2/4 | 1", 7), ("lengths right one | up one", 6),
                           ("tie one.a | one.b", 3), ("tie one.a | one.a", 3), ("tie one | two.a", 1), ("foot One | 1 | 1", 1),
                           ("foot one | 1 | 01", 5), ("far one 18", 2), ("upright right one up one", 3),
                           ("right one", 0), ("null one.a 1 one.b -1 ; far one | 2", 5), ("null  one.a 1 one.b -1", 1)):
            self.bad_text(word, Fact.read, text)
        many = " ".join(f"one.{letter} 1" for letter in "abcdefghijk")
        self.assertEqual(len(Fact.read(f"null {many} one.l -11").step.terms), 12)
        self.bad_text(25, Fact.read, f"null {many} one.l 1 one.m -12")

    def test_long_numbers(self):
        long = "1" + "0" * 59
        self.assertEqual(str(Fact.read(f"far one | {long}/7")), f"far one | {long}/7")
        self.bad_text(3, Fact.read, f"far one | {long}9")


if __name__ == "__main__":
    unittest.main()
