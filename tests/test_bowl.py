"""The bowl: eyes of flats, sums that show there is none, signs; each paper reckoned anew in Fractions."""

import random
import unittest

from alleyes.bowl import AboveEyes, BelowEyes, MixedEyes, NoEye, Sees, ZeroEyes, signs_at_eyes, some_eye
from alleyes.check_eyes import shows_eye_signs, shows_sees
from alleyes.errors import BadEyeRow, BadFlat, Impossible
from alleyes.eyes import Eye
from alleyes.flats import EyeRow, Flat
from alleyes.ratios import Ratio
from tests.right_flats import plain_parts, right_eye_signs, right_sees
from tests.support import Checks, Odd
from tests.test_flats import CORNER, HALF, NOTHING, ONE_ROW, SQUARE_ON, random_flat, random_line

BLUNT = Flat([EyeRow(-4, 0, 1, 0), EyeRow(-1, -1, 1, 0), EyeRow(-5, -1, 1, 4)])


def pillar(a, b, s):
    """The flat of one triple."""
    return Flat([EyeRow(1, 0, 0, -Ratio.of(a)), EyeRow(0, 1, 0, -Ratio.of(b)), EyeRow(0, 0, 1, -Ratio.of(s))])


class BowlTest(unittest.TestCase, Checks):
    def test_example(self):
        self.assertEqual([some_eye(CORNER).parts, some_eye(BLUNT).word, shows_sees(BLUNT, NoEye((-5, 2, 4), 1, 3, 6))],
                         [(1, Ratio(3, 2), 4), "noeye", True])
        self.assertEqual([signs_at_eyes(HALF, row).word for row in (
            EyeRow(0, 6, -1, 9), EyeRow(0, -1, 0, 3), EyeRow(0, 0, 1, -9), EyeRow(0, -1, 0, 0))],
            ["zeroeyes", "mixedeyes", "aboveeyes", "beloweyes"])

    def test_edges(self):
        bare = Flat([])
        self.assertIs(right_sees(bare, some_eye(bare)), True)
        self.assertIs(type(some_eye(bare).as_eye), Eye)
        for lines in ([ONE_ROW], [ONE_ROW * 5, SQUARE_ON], [SQUARE_ON, SQUARE_ON + ONE_ROW], [NOTHING, ONE_ROW]):
            found = some_eye(Flat(lines))
            self.assertEqual([found.word, found.parts[1:]], ["noeye", (None, None, None)])
            self.assertIs(right_sees(Flat(lines), found), True)
        self.assertEqual(some_eye(Flat([NOTHING, NOTHING])).word, "sees")

    def test_a_hair_beside_the_bowl(self):
        hair = Ratio(1, 10 ** 9)
        for a, b in ((0, 0), (1, 2), (Ratio(-1, 2), Ratio(1, 3))):
            level = Ratio.of(a) * a + Ratio.of(b) * b
            for flat in (pillar(a, b, level), Flat([EyeRow(Ratio.of(a) * -2, Ratio.of(b) * -2, 1, level)])):
                found = some_eye(flat)
                self.assertEqual([found.word, found.a, found.b, found.t], ["noeye", a, b, 0])
                self.assertIs(right_sees(flat, found), True)
                higher = Flat([*flat.lines[:-1], flat.lines[-1] - ONE_ROW * hair])
                self.assertEqual(some_eye(higher).parts, (a, b, level + hair))
                lower = Flat([*flat.lines[:-1], flat.lines[-1] + ONE_ROW * hair])
                self.assertEqual([some_eye(lower).word, some_eye(lower).t], ["noeye", hair])
                self.assertIs(right_sees(lower, some_eye(lower)), True)

    def test_lines_without_s(self):
        upward = Flat([EyeRow(2, -1, 0, 3), EyeRow(4, -2, 0, 6)])
        self.assertIs(right_sees(upward, some_eye(upward)), True)
        both = Flat([EyeRow(2, -1, 0, 3), EyeRow(1, 1, 0, 0)])
        self.assertEqual(some_eye(both).parts[:2], (-1, 1))

    def test_many_eyes(self):
        source, words = random.Random(31), {}
        for _ in range(400):
            flat = random_flat(source)
            found = some_eye(flat)
            kind = (found.word, flat.rank, found.word == "noeye" and found.a is None)
            words[kind] = words.get(kind, 0) + 1
            self.assertIn(type(found), (Sees, NoEye))
            self.assertIs(right_sees(flat, found), True)
            self.assertIs(shows_sees(flat, found), True)
            self.all_ratios([part for part in plain_parts(found) if part is not None])
            self.assertEqual(found, some_eye(Flat([line * 1 for line in flat.lines])))
            if found:
                self.assertIn(found.as_eye, flat)
                self.assertEqual(found.parts, (found.as_eye.a, found.as_eye.b, found.as_eye.s))
        self.assertGreater(len(words), 9)

    def test_many_signs(self):
        source, words = random.Random(32), {}
        for _ in range(400):
            flat = random_flat(source)
            seen = some_eye(flat)
            if not seen:
                self.raised(Impossible, {"word": "noeye"}, signs_at_eyes, flat, NOTHING)
                continue
            row = random_line(source, seen.as_eye if source.random() < 0.4 else None)
            if source.random() < 0.2 and flat.lines:
                row = flat.lines[-1] * random_line(source).g
            found = signs_at_eyes(flat, row)
            words[found.word] = words.get(found.word, 0) + 1
            self.assertIn(type(found), (ZeroEyes, AboveEyes, BelowEyes, MixedEyes))
            self.assertIs(right_eye_signs(flat, row, found), True)
            self.assertIs(shows_eye_signs(flat, row, found), True)
            self.all_ratios([part for part in plain_parts(found) if part is not None])
            self.assertEqual(found, signs_at_eyes(flat, row * 1))
            self.assertIs(type(found) in (AboveEyes, BelowEyes), not some_eye(flat.narrowed([row])))
        self.assertGreater(min(words.values()), 25)

    def test_rows_that_are_nothing(self):
        self.assertEqual([signs_at_eyes(HALF, NOTHING).parts, signs_at_eyes(Flat([]), NOTHING).parts], [((0, 0),), ((),)])
        self.assertEqual([signs_at_eyes(HALF, ONE_ROW).word, signs_at_eyes(HALF, -ONE_ROW).word], ["aboveeyes", "beloweyes"])

    def test_near_the_bowl(self):
        near = Flat([EyeRow(0, 0, 1, Ratio(-1, 10 ** 12))])
        for row in (EyeRow(999999, 1, 0, 0), EyeRow(1, Ratio(1, 999983), 0, Ratio(1, 10 ** 8)), EyeRow(0, -1, 5, 0)):
            self.assertIs(right_eye_signs(near, row, signs_at_eyes(near, row)), True)

    def test_slanted_ways_near_the_bowl(self):
        hair = Ratio(1, 100)
        for a, b, slope in ((10, 0, 30), (10, 0, 10), (-10, 0, -30), (0, 10, 30), (0, -10, -30), (10, 0, 20), (0, 10, 0)):
            across = EyeRow(1, 0, 0, -a) if a else EyeRow(0, 1, 0, -b)
            still = EyeRow(0, 1, 0, 0) if a else EyeRow(1, 0, 0, 0)
            flat = Flat([still, EyeRow(0, 0, 1, -hair - 100) + across * -slope])
            found = signs_at_eyes(flat, across)
            self.assertEqual([found.word, found.zero], ["mixedeyes", (a, b, hair + 100)])
            self.assertIs(right_eye_signs(flat, across, found), True)

    def test_errors(self):
        for value in (None, True, [], HALF.lines, Odd()):
            self.bad(BadFlat, "flat", some_eye, value)
            self.bad(BadFlat, "flat", signs_at_eyes, value, None)
        for value in (None, 0, (1, 2, 3, 4), Odd()):
            self.bad(BadEyeRow, "row", signs_at_eyes, BLUNT, value)
        self.raised(Impossible, {"word": "noeye"}, signs_at_eyes, flat=BLUNT, row=SQUARE_ON)
        self.raised(Impossible, {"word": "noeye"}, signs_at_eyes, Flat([ONE_ROW]), ONE_ROW)
        self.assertEqual(some_eye(flat=CORNER).word, "sees")


if __name__ == "__main__":
    unittest.main()
