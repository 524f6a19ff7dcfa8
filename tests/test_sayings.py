"""Sayings: their parts, errors, texts."""

import unittest

from alleyes.errors import BadMark, BadNumber, BadStep, NoLabel, Twice, TwoPictures
from alleyes.facts import Fact, Far, Foot, Null, Tie, Upright
from alleyes.ratios import Ratio
from alleyes.sayings import AtLeast, Before, Blunt, Deeper, Longer, OnSide, Saying, Sharp, Shorter, is_saying
from alleyes.steps import Mark
from tests.support import NO_LABELS, NO_RATIOS, NO_TEXTS, Checks, Odd
from tests.test_facts import AB, AD, ALL, NO_STEPS, RIGHT, TEXTS, UP

MARK = Mark({"one.a": -1, "one.d": 2})
A, B, C, OTHER = "one.a", "one.b", "one.c", "two.a"
SAYINGS = [Deeper(A, B), Before(MARK), OnSide(C, A, AB, UP, B), AtLeast(C, A, B, Ratio(1, 2), AB, UP), Sharp(AB, RIGHT), Blunt(UP, AD),
           Longer(AD, AB, 4), Shorter(RIGHT, UP, 1, Ratio(2, 3))]
SAID = ["deeper one.a | one.b", "before one.a -1 one.d 2", "onside one.c | one.a | one.a -1 one.b 1 | up one | one.b",
        "atleast one.c | one.a | one.b | 1/2 | one.a -1 one.b 1 | up one", "sharp one.a -1 one.b 1 | right one",
        "blunt up one | one.a -1 one.d 1", "longer one.a -1 one.d 1 | one.a -1 one.b 1 | 4 | 1", "shorter right one | up one | 1 | 2/3"]


class SayingsTest(unittest.TestCase, Checks):
    def test_attributes(self):
        deeper, before, side, least, sharp, blunt, longer, shorter = SAYINGS
        self.assertEqual([deeper.one, deeper.other, before.mark, side.label, side.base, side.one, side.other, side.mate],
                         [A, B, MARK, C, A, AB, UP, B])
        self.assertEqual([least.label, least.one, least.other, least.ratio, least.side, least.mate], [C, A, B, Ratio(1, 2), AB, UP])
        self.assertEqual([sharp.one, sharp.other, blunt.one, blunt.other, longer.one, longer.other, longer.p, longer.q, shorter.q],
                         [AB, RIGHT, UP, AD, AD, AB, 4, 1, Ratio(2, 3)])
        self.assertEqual([saying.steps for saying in SAYINGS], [(), (), (AB, UP), (AB, UP), (AB, RIGHT), (UP, AD), (AD, AB), (RIGHT, UP)])
        self.all_ratios([longer.p, longer.q, shorter.p, AtLeast(C, A, B, 2, AB, UP).ratio])
        for saying in SAYINGS:
            self.assertTrue(isinstance(saying, Saying) and not isinstance(saying, Fact))
            self.assertIs(type(saying.steps), tuple)

    def test_by_name(self):
        named = [Deeper(one=A, other=B), Before(mark=MARK), OnSide(label=C, base=A, one=AB, other=UP, mate=B),
                 AtLeast(label=C, one=A, other=B, ratio=Ratio(1, 2), side=AB, mate=UP), Sharp(one=AB, other=RIGHT), Blunt(one=UP, other=AD),
                 Longer(one=AD, other=AB, p=4, q=1), Shorter(RIGHT, UP, q=Ratio(2, 3))]
        self.assertEqual(named, SAYINGS)

    def test_equal(self):
        for at, saying in enumerate(SAYINGS):
            for k, other in enumerate(SAYINGS):
                self.assertEqual([saying == other, saying != other], [at == k, at != k])
            self.assertFalse(saying == str(saying) or saying == saying.steps or saying is None)
        others = [Deeper(A, C), Before(Mark.of_point(A)), OnSide(C, A, AB, UP, C), AtLeast(C, A, B, Ratio(1, 3), AB, UP), Sharp(AB, UP), Blunt(UP, AB),
                  Longer(AD, AB, 5), Shorter(RIGHT, UP, 1, Ratio(1, 3))]
        for saying, other in zip(SAYINGS, others):
            self.assertTrue(saying != other and not saying == other)
        self.assertFalse(Sharp(AB, AD) == Blunt(AB, AD) or Sharp(AB, AD) == Upright(AB, AD) or Longer(AB, AD) == Shorter(AB, AD))

    def test_is_saying(self):
        for value in (*SAYINGS, *ALL[:6]):
            self.assertIs(is_saying(value), True)
        for value in (*ALL[6:], *SAID, None, True, AB, MARK, (), Odd(), Fact, Deeper):
            self.assertIs(is_saying(value), False)

    def test_labels(self):
        for value in NO_LABELS:
            for call, args in ((Deeper, (value, None)), (Deeper, (OTHER, value)), (OnSide, (value, None, None, None, None)),
                               (OnSide, (A, value, None, None, None)), (OnSide, (A, OTHER, AB, UP, value)),
                               (AtLeast, (value, None, None, None, None, None)), (AtLeast, (A, value, None, None, None, None)),
                               (AtLeast, (A, OTHER, value, None, None, None))):
                self.raised(NoLabel, {"name": value}, call, *args)
        fields = {"one": "one", "other": "two"}
        for call, args in ((Deeper, (A, OTHER)), (OnSide, (A, B, AB, UP, OTHER)), (OnSide, (A, OTHER, AB, UP, OTHER)),
                           (OnSide, (A, OTHER, AB, UP, "zwo.a")), (AtLeast, (A, B, OTHER, 1, AB, UP)), (AtLeast, (A, OTHER, OTHER, 1, AB, UP))):
            self.raised(TwoPictures, fields, call, *args)
        self.raised(Twice, {"name": B}, OnSide, A, B, AB, UP, B)
        self.raised(Twice, {"name": B}, OnSide, B, B, AB, UP, B)
        self.raised(Twice, {"name": B}, AtLeast, A, B, B, 1, AB, UP)
        self.assertEqual([Deeper(A, A).other, OnSide(A, A, AB, UP, B).label, OnSide(B, A, AB, UP, B).label, AtLeast(A, A, B, 0, AB, AB).ratio],
                         [A, A, B, 0])

    def test_parts(self):
        for value in NO_STEPS:
            if not isinstance(value, Mark):
                self.bad(BadMark, "mark", Before, value)
            for kind in (Sharp, Blunt, Longer, Shorter):
                self.bad(BadStep, "one", kind, value, None)
                self.bad(BadStep, "other", kind, AB, value)
            self.bad(BadStep, "one", OnSide, A, OTHER, value, None, None)
            self.bad(BadStep, "other", OnSide, A, OTHER, AB, value, None)
            self.bad(BadStep, "side", AtLeast, A, OTHER, B, 1, value, None)
            self.bad(BadStep, "mate", AtLeast, A, OTHER, B, 1, AB, value)
        self.bad(BadMark, "mark", Before, AB)
        for value in NO_RATIOS:
            self.bad(BadNumber, "ratio", AtLeast, A, OTHER, B, value, None, None)
        for value in (*NO_RATIOS, 0, -1, Ratio(-1, 2)):
            for kind in (Longer, Shorter):
                self.bad(BadNumber, "p", kind, AB, AD, value, None)
                self.bad(BadNumber, "q", kind, AB, AD, 1, value)

    def test_texts(self):
        self.assertEqual([str(saying) for saying in SAYINGS], SAID)
        for saying, text in zip(SAYINGS + ALL[:6], SAID + TEXTS[:6]):
            self.assertEqual(Saying.read(text), saying)
            self.assertIs(type(Saying.read(text)), type(saying))
            self.bad_words(Saying.read, text)
        self.bad_beginnings(Saying.read, SAID[0])
        self.bad_beginnings(Saying.read, SAID[1], (3,))
        self.bad_beginnings(Saying.read, SAID[2], (7,))
        self.bad_beginnings(Saying.read, SAID[3], (11,))
        self.bad_beginnings(Saying.read, SAID[4], (3,))
        self.bad_beginnings(Saying.read, SAID[5], (6,))
        self.bad_beginnings(Saying.read, SAID[6], (3, 8))
        self.bad_beginnings(Saying.read, SAID[7])
        for value in NO_TEXTS:
            self.bad_text(0, Saying.read, value)

    def test_wrong_words(self):
        for text, word in (("foot one | 3 | 1", 0), ("far one | 3", 0), ("tie one.a | two.a", 0), ("", 0), ("Deeper one.a | one.b", 0),
                           ("deeper one.a | two.b", 3), ("deeper one.a one.b", 2), ("deeper one.a | one.b | one.c", 4),
                           ("before one.a 1 one.b 1", 4), ("before one.a 1 one.b -1", 4), ("before right one", 1), ("before one.a 2", 2),
                           ("onside one.a | two.b | up one | right one | one.c", 3), ("onside one.a | one.b | up one | right one | one.b", 11),
                           ("onside one.a | one.b | up one | right one | two.c", 11), ("onside one.b | one.b | up one | one.a 1 one.b 1 | one.c", 12),
                           ("atleast one.a | one.b | one.b | 1 | up one | up one", 5), ("atleast one.a | one.b | two.c | 1 | up one | up one", 5),
                           ("atleast one.a | two.b | one.c | 1 | up one | up one", 3), ("atleast one.a | one.b | one.c | 1/0 | up one | up one", 7),
                           ("longer up one | up one | 0 | 1", 7), ("shorter up one | up one | 1 | -1/2", 9), ("sharp one.a 1 one.b 1 | up one", 5),
                           ("blunt up one | one.a 1 one.b 1", 7), ("along right one | up one", 4)):
            self.bad_text(word, Saying.read, text)
        self.assertEqual(Saying.read("atleast one.a | one.b | one.c | -3 | up one | up two").ratio, -3)
        self.assertEqual(Saying.read("sharp right one | right one"), Sharp(RIGHT, RIGHT))
        self.assertEqual([type(fact) for fact in ALL[6:]], [Foot, Far, Tie])
        self.assertEqual(type(Saying.read(TEXTS[0])), Null)


if __name__ == "__main__":
    unittest.main()
