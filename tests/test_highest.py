"""The highest eye, and the one eye; each paper reckoned anew in Fractions."""

import random
import unittest

from alleyes.bowl import some_eye
from alleyes.check_eyes import shows_highest
from alleyes.errors import BadFlat, Impossible
from alleyes.eyes import Eye
from alleyes.flats import EyeRow, Flat
from alleyes.highest import Highest, Upward, highest, one_eye
from alleyes.ratios import Ratio
from tests.right_flats import at, plain_parts, right_highest
from tests.support import Checks, Odd, value_of
from tests.test_bowl import BLUNT, pillar
from tests.test_flats import CORNER, HALF, ONE_ROW, SQUARE_ON, random_flat


class HighestTest(unittest.TestCase, Checks):
    def test_example(self):
        self.assertEqual([highest(HALF).parts, one_eye(HALF), str(one_eye(CORNER)), highest(Flat([SQUARE_ON])).word],
                         [(3, 3, 27, (0, -1)), None, "1 3/2 4", "upward"])

    def test_upward(self):
        self.assertEqual([highest(Flat([])).word, highest(flat=Flat([SQUARE_ON])).a], ["upward", 3])
        slanted = highest(Flat([EyeRow(2, -1, 0, 3)]))
        self.assertEqual(value_of(slanted.a) * 2 - value_of(slanted.b) + 3, 0)
        both = highest(Flat([EyeRow(2, -1, 0, 3), EyeRow(1, 1, 0, 0)]))
        self.assertEqual(both.parts, (-1, 1))
        self.all_ratios(both.parts)

    def test_highest(self):
        level = highest(Flat([EyeRow(0, 0, 1, -9)]))
        self.assertEqual(level.parts, (0, 0, 9, (1,)))
        slope = highest(Flat([EyeRow(-2, 0, 1, -9)]))
        self.assertEqual([slope.a, slope.b, slope.s], [1, 0, 11])
        self.assertEqual(highest(CORNER).parts[:3], (1, Ratio(3, 2), 4))

    def test_one_eye(self):
        self.assertEqual([one_eye(pillar(1, 2, 6)), one_eye(flat=pillar(1, 2, 5)), one_eye(Flat([])), one_eye(BLUNT)],
                         [Eye(1, 2, 6), None, None, None])
        self.assertEqual(one_eye(Flat([*CORNER.lines, *CORNER.lines])), Eye(1, Ratio(3, 2), 4))
        self.assertIs(one_eye(CORNER.narrowed([ONE_ROW])), None)
        self.assertIs(type(one_eye(CORNER)), Eye)

    def test_many(self):
        source, words = random.Random(41), {}
        for _ in range(300):
            flat = random_flat(source)
            seen = some_eye(flat)
            if not seen:
                self.raised(Impossible, {"word": "noeye"}, highest, flat)
                self.assertIs(one_eye(flat), None)
                continue
            found = highest(flat)
            kind = (found.word, flat.rank)
            words[kind] = words.get(kind, 0) + 1
            self.assertIn(type(found), (Highest, Upward))
            self.assertIs(right_highest(flat, found), True)
            self.assertIs(shows_highest(flat, found), True)
            self.all_ratios(plain_parts(found))
            self.assertEqual(found, highest(Flat(list(flat.lines))))
            self.check_none_is_higher(flat, found, seen.as_eye)
            self.assertEqual(one_eye(flat), seen.as_eye if flat.rank == 3 else None)
        self.assertEqual(len(words), 6)

    def check_none_is_higher(self, flat, found, eye):
        if type(found) is Highest:
            self.assertGreaterEqual(value_of(Eye(*found.parts[:3]).height), value_of(eye.height))
        else:
            a, b = [value_of(number) for number in found.parts]
            for s in (a * a + b * b + 1, 10 ** 6):
                self.assertEqual([at(line, [a, b, s]) for line in flat.lines], [0] * len(flat))

    def test_errors(self):
        for value in (None, True, [], HALF.lines, Odd()):
            self.bad(BadFlat, "flat", highest, value)
            self.bad(BadFlat, "flat", one_eye, value)
        for flat in (BLUNT, Flat([ONE_ROW]), pillar(0, 0, 0)):
            self.raised(Impossible, {"word": "noeye"}, highest, flat)


if __name__ == "__main__":
    unittest.main()
