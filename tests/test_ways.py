"""Ways of forms in cones."""

import random
import unittest

from alleyes.cones import Above, Cone, some_scene
from alleyes.errors import BadCone, BadRow, Impossible, NoLabel
from alleyes.papers import Paper
from alleyes.ratios import Ratio
from alleyes.rows import Row
from alleyes.spans import rest_of
from alleyes.ways import Way, way_in
from tests.painting import direction
from tests.right_standing import is_right_way
from tests.support import NO_LISTS, Checks, Odd, value_of
from tests.test_cones import DEEP, FLOOR, possible_cones, random_row

NOTHING = Row({})


class WaysTest(unittest.TestCase, Checks):
    def test_paper(self):
        way = Way(direction=[1, 0, 0], factor=Row({"one.a": 1}), sums=[[1], [], []], above=Above((), (), {"one.a": 1}))
        self.assertEqual([way.word, way.direction, way.sums, bool(way)], ["way", (1, 0, 0), ((1,), (), ()), True])
        self.assertEqual(way.parts, (way.direction, way.factor, way.sums, way.above))
        self.assertIsInstance(way, Paper)

    def test_settled(self):
        side = (Row({"one.b": 6}), NOTHING, Row({"one.b": 1, "one.a": -1}))
        way = way_in(FLOOR, side)
        self.assertEqual([way.direction, str(way.factor), [type(number) for number in way.direction]],
                         [(1, 0, 0), "one.d 2", [int] * 3])
        away = (Row({"one.d": -4}), Row({"one.c": -4}), Row({"one.a": 2, "one.d": -2}))
        back = way_in(cone=FLOOR, form=list(away))
        self.assertEqual([back.direction, str(back.factor)], [(-3, -3, -1), "one.d 4/3"])
        self.assertTrue(is_right_way(FLOOR, side, way) and is_right_way(FLOOR, away, back))

    def test_above_rows(self):
        alike = Row({"one.a": 1, "one.b": -1})
        self.assertEqual(way_in(DEEP, (alike * -2, NOTHING, alike * 4)).direction, (-1, 0, 2))
        self.assertEqual(way_in(DEEP, (alike * -2, NOTHING, alike * 4)).factor, alike * 2)
        self.assertIsNone(way_in(DEEP, (NOTHING, Row({"one.a": 1, "one.b": -2}), NOTHING)))

    def test_not_settled(self):
        for form in ((NOTHING, NOTHING, NOTHING), (Row({"one.a": 1}), Row({"one.b": 1}), NOTHING),
                     (Row({"one.a": 1, "one.b": -2}), NOTHING, NOTHING)):
            self.assertIsNone(way_in(DEEP, form))
        same = Row({"one.a": 1, "one.b": -1})
        self.assertIsNone(way_in(Cone(["one.a", "one.b"], [same]), (same, same * 2, NOTHING)))
        self.assertIsNone(way_in(Cone(["one.a", "one.b"], []), (same, same, same)))

    def test_random_cones(self):
        source, settled = random.Random(8), 0
        for source, cone in possible_cones(31, 60):
            row = random_row(source, list(cone.labels))
            form = []
            for number in [source.randint(-2, 2) for _ in range(3)]:
                part = row * number
                for zero in cone.zeros:
                    part = part + zero * source.randint(-1, 1)
                form.append(part)
            way = way_in(cone, form)
            if way is None:
                continue
            settled += 1
            self.assertTrue(is_right_way(cone, form, way))
            self.assertEqual(rest_of(cone.zeros, way.factor), way.factor)
            depths = dict(some_scene(cone).depths)
            self.assertEqual(direction([value_of(part.at(depths)) for part in form]), way.direction)
        self.assertGreater(settled, 15)

    def test_errors(self):
        form = (NOTHING, Row({"one.z": 1, "one.a": 1}), Row({"one.x": 1}))
        dark = Cone(["one.a"], [Row({"one.a": 1})])
        for value in (None, [], "one", Odd(), Row({})):
            self.bad(BadCone, "cone", way_in, value, None)
        for value in (*NO_LISTS, [], form[:2], (*form, NOTHING), (1, 0, 0), (NOTHING, NOTHING, Ratio(1)), NOTHING):
            self.bad(BadRow, "form", way_in, dark, value)
        self.raised(NoLabel, {"name": "one.z"}, way_in, dark, form)
        self.raised(Impossible, {"word": "noscene"}, way_in, dark, (NOTHING, NOTHING, NOTHING))


if __name__ == "__main__":
    unittest.main()
