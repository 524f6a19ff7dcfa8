"""The checks of papers of eyes: right ones, ones bent at each part, values of other kinds, errors."""

import random
import unittest

from alleyes.bowl import AboveEyes, BelowEyes, MixedEyes, NoEye, Sees, ZeroEyes, signs_at_eyes, some_eye
from alleyes.check_eyes import shows_eye_signs, shows_highest, shows_sees
from alleyes.errors import BadEyeRow, BadFlat
from alleyes.flats import EyeRow, Flat
from alleyes.highest import Highest, Upward, highest
from alleyes.papers import Denial, Paper
from alleyes.ratios import Ratio
from tests.bending import parts_bent
from tests.right_flats import right_eye_signs, right_highest, right_sees
from tests.support import Checks, Odd
from tests.test_bowl import BLUNT, pillar
from tests.test_flats import CORNER, EVEN, HALF, NOTHING, ONE_ROW, SQUARE_ON, random_flat, random_line


class LookSees(Sees):
    """Below Sees, but not made by calling it."""


class CheckEyesTest(unittest.TestCase, Checks):
    def test_example(self):
        above = AboveEyes((3, 1, 15), ((6, 0, 1), 3, 0, 0))
        self.assertEqual([shows_sees(HALF, Sees(3, 1, 15)), shows_sees(HALF, NoEye((0, -1), 3, 3, -9)),
                          shows_eye_signs(HALF, EyeRow(0, 0, 1, -9), above)], [True, False, True])

    def test_sees(self):
        for value, wanted in ((Sees(3, Ratio(1), 15), True), (Sees(3, 1, 16), False), (Sees(3, 0, 9), False),
                              (Sees(3, 6, 45), False), (Sees(3, 7, 51), False), (Sees(3, True, 15), False),
                              (Sees(3, 1, None), False), (Sees("3", 1, 15), False), (Sees((3, 1, 15), 1, 15), False),
                              (Paper("sees", 3, 1, 15), False), (LookSees(3, 1, 15), False), (Upward(3, 1), False)):
            self.assertIs(shows_sees(HALF, value), wanted, value.parts)
        self.assertEqual([shows_sees(Flat([]), Sees(1, 0, 1)), shows_sees(Flat([]), Sees(1, 0, 2))], [False, True])

    def test_no_eye(self):
        for value, wanted in ((NoEye((-5, 2, 4), 1, 3, 6), True), (NoEye([-5, 2, Ratio(4)], 1, Ratio(3), 6), True),
                              (NoEye((-5, 2, 4), 1, 3, 5), False), (NoEye((-5, 2, 4), 3, 1, 6), False),
                              (NoEye((-5, 2, 3), 1, 3, 6), False), (NoEye((-5, 2, 4, 0), 1, 3, 6), False),
                              (NoEye((-5, 2), 1, 3, 6), False), (NoEye((-5, 2, 4), True, 3, 6), False),
                              (NoEye((-5, 2, 4), None, None, None), False), (NoEye(None, 1, 3, 6), False),
                              (Denial("noeye", (-5, 2, 4), 1, 3, 6), False), (NoEye((-5, 2, 4), None, 3, 6), False)):
            self.assertIs(shows_sees(BLUNT, value), wanted, value.parts)
        edge = pillar(0, 0, 0)
        self.assertEqual([shows_sees(edge, NoEye((0, 0, 1), 0, 0, 0)), shows_sees(edge, NoEye((0, 0, 1), 0, 0, False))],
                         [True, False])
        high = pillar(0, 0, 1)
        self.assertEqual([shows_sees(high, NoEye((0, 0, 1), 0, 0, -1)), shows_sees(pillar(0, 0, -1), NoEye((0, 0, 1), 0, 0, 1))],
                         [False, True])

    def test_one_row(self):
        flat = Flat([SQUARE_ON, SQUARE_ON + ONE_ROW * 2])
        half = Ratio(1, 2)
        for parts, wanted in ((((-half, half), None, None, None), True), (((half, -half), None, None, None), False),
                              (((-1, 1), None, None, None), False), (((-half, half), 0, None, None), False),
                              (((-half, half), None, None, 0), False), (((-half, half), None, 0, None), False),
                              (((-half, half), 0, 0, 0), False), (((-half, half), False, False, False), False)):
            self.assertIs(shows_sees(flat, NoEye(*parts)), wanted, parts)

    def test_signs(self):
        row = EyeRow(0, 0, 1, -9)
        bar = ((6, 0, 1), 3, 0, 0)
        for value, wanted in ((AboveEyes((3, 1, 15), bar), True), (AboveEyes([3, 1, 15], list(bar)), True),
                              (BelowEyes((3, 1, 15), bar), False), (AboveEyes((3, 1, 16), bar), False),
                              (AboveEyes((3, 1), bar), False), (AboveEyes((3, 1, 15), bar[:3]), False),
                              (AboveEyes((3, 1, 15), ((6, 0), 3, 0, 0)), False), (AboveEyes((3, 1, 15), None), False),
                              (AboveEyes(None, bar), False), (ZeroEyes((6, 0)), False), (AboveEyes((3, 1, True), bar), False)):
            self.assertIs(shows_eye_signs(HALF, row, value), wanted, value.parts)
        self.assertEqual([shows_eye_signs(HALF, -row, BelowEyes((3, 1, 15), ((6, 0, -1), 3, 0, 0))),
                          shows_eye_signs(HALF, -row, AboveEyes((3, 1, 15), ((6, 0, -1), 3, 0, 0)))], [True, False])
        for weights, wanted in (((6, 1), True), ([6, Ratio(1)], True), ((6, 2), False), ((6,), False), ((6, 1, 0), False),
                                (None, False), ((6, True), False)):
            self.assertIs(shows_eye_signs(HALF, EyeRow(0, 6, -1, 9), ZeroEyes(weights)), wanted)
        self.assertEqual([shows_eye_signs(Flat([]), NOTHING, ZeroEyes(())), shows_eye_signs(Flat([]), EVEN, ZeroEyes(()))],
                         [True, False])

    def test_mixed(self):
        row = EyeRow(0, -1, 0, 3)
        low, zero, high = (3, 4, 33), (3, 3, 27), (3, 1, 15)
        for parts, wanted in (((low, zero, high), True), ((high, zero, low), False), ((low, low, high), False),
                              ((zero, zero, high), False), ((low, zero, zero), False), ((low, zero, None), False),
                              (((3, 4, 34), zero, high), False), (([3, 4, 33], zero, list(high)), True)):
            self.assertIs(shows_eye_signs(HALF, row, MixedEyes(*parts)), wanted, parts)

    def test_highest(self):
        for value, wanted in ((Highest(3, 3, 27, (0, -1)), True), (Highest(3, Ratio(3), 27, [0, -1]), True),
                              (Highest(3, 1, 15, (0, -1)), False), (Highest(3, 3, 27, (1, -1)), False),
                              (Highest(3, 3, 27, (0,)), False), (Highest(3, 3, 28, (0, -1)), False), (Upward(3, 3), False),
                              (Highest(3, 3, 27, None), False), (Highest(3, 3, 27, (False, -1)), False),
                              (Highest(None, 3, 27, (0, -1)), False), (Paper("highest", 3, 3, 27, (0, -1)), False)):
            self.assertIs(shows_highest(HALF, value), wanted, value.parts)
        low = pillar(0, 0, -4)
        self.assertIs(shows_highest(low, Highest(0, 0, -4, (0, 0, 1))), False)

    def test_upward(self):
        wall = Flat([EyeRow(2, -1, 0, 3)])
        for value, wanted in ((Upward(0, 3), True), (Upward(-1, Ratio(1)), True), (Upward(0, 4), False),
                              (Upward(False, 3), False), (Upward(None, None), False), (Upward((0, 3), 3), False)):
            self.assertIs(shows_highest(wall, value), wanted, value.parts)
        self.assertEqual([shows_highest(Flat([]), Upward(5, -7)), shows_highest(Flat([EyeRow(0, 0, 1, 0)]), Upward(0, 0)),
                          shows_highest(Flat([ONE_ROW]), Upward(0, 0)), shows_highest(Flat([NOTHING]), Upward(0, 0))],
                         [True, False, False, True])

    def test_flats_without_eyes_are_no_error(self):
        self.assertIs(shows_eye_signs(BLUNT, NOTHING, ZeroEyes((0, 0, 0))), True)
        self.assertIs(shows_highest(BLUNT, Upward(0, 0)), False)
        self.assertIs(shows_eye_signs(BLUNT, EVEN, AboveEyes((0, 0, 1), ((0, 0, 0, 0), 0, 0, 0))), False)

    def test_any_values(self):
        for value in (None, True, 0, "sees", (), [], {}, Odd(), Ratio(1), Sees, HALF, EVEN, Paper("sees"), Denial("noeye")):
            for flat in (HALF, Flat([])):
                self.assertIs(shows_sees(flat, value), False)
                self.assertIs(shows_eye_signs(flat, EVEN, value), False)
                self.assertIs(shows_highest(flat, value), False)
                self.assertIs(shows_sees(flat, Sees(value, value, value)), False)
                self.assertIs(shows_sees(flat, NoEye(value, value, value, value)), False)
                self.assertIs(shows_eye_signs(flat, EVEN, ZeroEyes(value)), False)
                for kind in (AboveEyes, BelowEyes):
                    self.assertIs(shows_eye_signs(flat, EVEN, kind(value, value)), False)
                self.assertIs(shows_eye_signs(flat, EVEN, MixedEyes(value, value, value)), False)
                self.assertIs(shows_highest(flat, Highest(value, value, value, value)), False)
            self.assertIs(shows_highest(HALF, Upward(value, value)), False)

    def test_errors(self):
        for value in (None, True, [], HALF.lines, Odd()):
            self.bad(BadFlat, "flat", shows_sees, value, None)
            self.bad(BadFlat, "flat", shows_eye_signs, value, None, None)
            self.bad(BadFlat, "flat", shows_highest, value, None)
        for value in (None, 0, (1, 2, 3, 4), Odd()):
            self.bad(BadEyeRow, "row", shows_eye_signs, BLUNT, value, None)
        self.assertIs(shows_sees(flat=HALF, value=Sees(3, 1, 15)), True)


class BentPapersTest(unittest.TestCase):
    """The checks take exactly the right ones of many bent papers."""

    def compare(self, source, paper, shows, right):
        taken = 0
        for _ in range(12):
            value = type(paper)(*parts_bent(paper.parts, source))
            wanted = right(value)
            self.assertIs(shows(value), wanted, (type(value), value.parts))
            taken += wanted
        return taken

    def test_many(self):
        source, taken = random.Random(51), [0, 0, 0]
        for _ in range(250):
            flat = random_flat(source)
            seen = some_eye(flat)
            taken[0] += self.compare(source, seen, lambda value: shows_sees(flat, value), lambda value: right_sees(flat, value))
            if seen:
                row = random_line(source, seen.as_eye if source.random() < 0.5 else None)
                taken[1] += self.compare(source, signs_at_eyes(flat, row), lambda value: shows_eye_signs(flat, row, value),
                                         lambda value: right_eye_signs(flat, row, value))
                taken[2] += self.compare(source, highest(flat), lambda value: shows_highest(flat, value),
                                         lambda value: right_highest(flat, value))
        self.assertGreater(min(taken), 50)
        self.assertIs(shows_sees(CORNER, some_eye(CORNER)), True)


if __name__ == "__main__":
    unittest.main()
