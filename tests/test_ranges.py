"""Ranges: ends of quotients; each paper reckoned anew in Fractions."""

import unittest

from alleyes.check_cones import shows_stretch
from alleyes.cones import Above, Cone, signs_of
from alleyes.errors import BadCone, BadRow, Impossible, NoLabel, Unsettled
from alleyes.ranges import Even, Stretch, stretch
from alleyes.ratios import Ratio
from alleyes.rows import Row
from tests.right_cones import right_stretch
from tests.support import Checks, Odd
from tests.test_cones import BEAMS, DEEP, FLOOR, NOTHING, large_cone, possible_cones, random_row


class RangesTest(unittest.TestCase, Checks):
    def test_example(self):
        found = stretch(DEEP, Row({"one.a": 1}), Row({"one.b": 1}))
        self.assertEqual([found.low, found.high, found.high_end[0],
                          stretch(FLOOR, Row({"one.c": 1}), Row({"one.a": 1})).number], [1, None, None, 3])

    def test_ends(self):
        wide = Cone(["one.a", "one.b", "one.c"], [], [Row({"one.a": 1, "one.b": -2}), Row({"one.b": 3, "one.a": -1})])
        found = stretch(wide, Row({"one.a": 1}), Row({"one.b": 1}))
        self.assertEqual([found.word, found.low, found.high], ["stretch", 2, 3])
        found = stretch(cone=wide, top=Row({"one.a": -1, "one.b": 1}), under=Row({"one.b": 2}))
        self.assertEqual([found.low, found.high], [-1, Ratio(-1, 2)])
        found = stretch(wide, Row({"one.c": 1}), Row({"one.b": 1}))
        self.assertEqual([found.low, found.high, found.low_end[0] is None, found.high_end[0]], [0, None, False, None])
        found = stretch(wide, Row({"one.c": -1}), Row({"one.b": 1}))
        self.assertEqual([found.low, found.high, found.low_end[0], found.high_end[0] is None], [None, 0, None, False])
        found = stretch(wide, Row({"one.c": 1, "one.a": -1}), Row({"one.b": 1}))
        self.assertEqual([found.low, found.high], [-3, None])
        bare = Cone(["one.a", "one.b", "one.c"], [])
        found = stretch(bare, Row({"one.a": 1, "one.b": -1}), Row({"one.c": 1}))
        self.assertEqual([found.low, found.high], [None, None])

    def test_even(self):
        found = stretch(FLOOR, Row({"one.c": 1, "one.b": 1}), Row({"one.a": 2}))
        self.assertEqual([type(found), found.number, len(found.weights), type(found.above)], [Even, 2, 3, Above])
        self.assertEqual([stretch(DEEP, NOTHING, Row({"one.b": 1})).number, stretch(DEEP, NOTHING, Row({"one.b": 1})).weights],
                         [0, ()])
        self.assertEqual(stretch(DEEP, Row({"one.b": -3}), Row({"one.b": 2})).number, Ratio(-3, 2))
        self.all_ratios([found.number, *found.weights])

    def test_many(self):
        words = {}
        for source, cone in possible_cones(6, 400):
            top, under = [random_row(source, list(cone.labels)) for _ in range(2)]
            if signs_of(cone, under).word == "below":
                under = -under
            if signs_of(cone, under).word != "above":
                self.bad(Unsettled, "under", stretch, cone, top, under)
                continue
            found = stretch(cone, top, under)
            kind = (found.word, found.parts[0] is None, found.parts[1] is None)
            words[kind] = words.get(kind, 0) + 1
            self.assertIs(right_stretch(cone, top, under, found), True)
            self.assertIs(shows_stretch(cone, top, under, found), True)
            self.assertEqual(found, stretch(cone, top * 1, under))
            if type(found) is Stretch:
                self.check_ends(cone, top, under, found)
        self.assertEqual(len(words), 5)
        self.assertGreater(min(words.values()), 5)

    def check_ends(self, cone, top, under, found):
        """By the signs of top less x times under: above up to low, below from high on, mixed between."""
        if found.low is not None:
            self.assertIs(type(found.low), Ratio)
            self.assertEqual(signs_of(cone, top - under * found.low).word, "above")
            self.assertEqual(signs_of(cone, top - under * (found.low - 1)).word, "above")
        if found.high is not None:
            self.assertIs(type(found.high), Ratio)
            self.assertEqual(signs_of(cone, top - under * found.high).word, "below")
        low = found.low if found.low is not None else Ratio(-50)
        high = found.high if found.high is not None else Ratio(50)
        if low.is_below(high):
            self.assertEqual(signs_of(cone, top - under * ((low + high) * Ratio(1, 2))).word, "mixed")

    def test_large_cones(self):
        for seed, zeros, aboves, terms in ((1, 12, 6, 4), (2, 18, 6, 4), (3, 8, 8, 12)):
            cone, row = large_cone(seed, zeros, aboves, terms)
            top, under = row(), Row({"one.d": Ratio(7, 999983)})
            found = stretch(cone, top, under)
            self.assertIs(right_stretch(cone, top, under, found), True)

    def test_errors(self):
        row = Row({"one.p": 1})
        for value in (None, True, "cone", Odd(), {"one.a": 1}):
            self.bad(BadCone, "cone", stretch, value, None, None)
        for value in (None, True, "0", {"one.a": 1}, [row], Odd()):
            self.bad(BadRow, "top", stretch, BEAMS, value, None)
            self.bad(BadRow, "under", stretch, BEAMS, Row({"two.a": 1}), value)
        self.raised(NoLabel, {"name": "two.a"}, stretch, BEAMS, Row({"two.b": 1, "two.a": 1}), Row({"one.a": 1}))
        self.raised(NoLabel, {"name": "one.a"}, stretch, BEAMS, row, Row({"one.a": 1}))
        self.raised(Impossible, {"word": "noscene"}, stretch, BEAMS, row, NOTHING)
        for under in (NOTHING, Row({"one.a": -1}), Row({"one.a": 1, "one.b": -2}), Row({"one.b": 1, "one.a": -1})):
            self.bad(Unsettled, "under", stretch, DEEP, NOTHING, under)
        self.bad(Unsettled, "under", stretch, FLOOR, NOTHING, FLOOR.zeros[0])


if __name__ == "__main__":
    unittest.main()
