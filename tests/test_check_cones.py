"""The checks of papers of cones: right ones, ones bent at each part, values of other kinds, errors."""

import random
import unittest
from unittest.mock import ANY

from alleyes.check_cones import shows_lies, shows_signs, shows_signs_of_rows, shows_stretch
from alleyes.cones import Above, AllZero, Below, Cone, Lies, Mixed, NeverAll, NoScene, Some, Zero
from alleyes.cones import signs_of, signs_of_rows, some_scene
from alleyes.errors import BadCone, BadRow, NoLabel, Unsettled
from alleyes.papers import Denial, Paper
from alleyes.ranges import Even, Stretch, stretch
from alleyes.ratios import Ratio
from alleyes.rows import Row
from tests.bending import parts_bent
from tests.right_cones import right_lies, right_signs, right_signs_of_rows, right_stretch
from tests.support import NO_LISTS, Checks, Odd
from tests.test_cones import BEAMS, DEEP, FLOOR, NOTHING, possible_cones, random_cone, random_row

HALF = Ratio(1, 2)
A, B = Row({"one.a": 1}), Row({"one.b": 1})
PAIR = Cone(["one.a", "one.b"], [])


class LookLies(Lies):
    """Below Lies, but not made by calling it."""


class CheckConesTest(unittest.TestCase, Checks):
    def test_example(self):
        apart, alike = Row({"one.a": 1, "one.b": -2}), Row({"one.a": 1, "one.b": -1})
        mixed = Mixed({"one.a": 3, "one.b": 2}, {"one.a": 2, "one.b": 1}, {"one.a": 3, "one.b": 1})
        self.assertEqual([shows_signs(DEEP, apart, mixed), shows_signs(DEEP, alike, Above((), (1,), {}))], [True, True])

    def test_lies(self):
        for value, wanted in ((Lies({"one.a": 2, "one.b": 1}), True), (Lies([("one.b", 1), ["one.a", Ratio(3, 2)]]), True),
                              (Lies({"one.a": 1, "one.b": 1}), False), (Lies({"one.a": 2}), False), (Lies(()), False),
                              (Lies({"one.a": 2, "one.b": 1, "one.c": 1}), False), (Lies({"one.a": 2, "one.b": True}), False),
                              (Lies([("one.a", 2), ("one.b", 1), ("one.b", 1)]), False), (Lies({"one.a": 1, "one.b": 0}), False),
                              (Lies(None), False), (Lies(3), False), (Lies("one.a"), False), (Lies([("one.a",)]), False),
                              (Lies([("one.a", 2, 1), ("one.b", 1)]), False), (Paper("lies", {"one.a": 2, "one.b": 1}), False),
                              (LookLies({"one.a": 2, "one.b": 1}), False), ({"one.a": 2, "one.b": 1}, False)):
            self.assertIs(shows_lies(DEEP, value), wanted, getattr(value, "parts", value))

    def test_no_scene(self):
        for value, wanted in ((NoScene((6, 6, -1), (), {"one.p": 2}), True), (NoScene([3, 3, -HALF], [], {"one.p": 1}), True),
                              (NoScene((6, 6, -1), (), [("one.p", 2), ("one.q", 0)]), True),
                              (NoScene((6, 6, -1), (), {"one.p": 2, "one.q": 1}), False),
                              (NoScene((6, 6, -1), (1,), {"one.p": 2}), False), (NoScene((6, 6), (), {"one.p": 2}), False),
                              (NoScene((-6, -6, 1), (), {"one.p": -2}), False), (NoScene((0, 0, 0), (), {}), False),
                              (NoScene((6, 6, -1), (), {"one.p": 2, "two.p": 0}), False), (NoScene(0, 0, 0), False),
                              (Denial("noscene", (6, 6, -1), (), {"one.p": 2}), False),
                              (NeverAll((6, 6, -1), (), {"one.p": 2}), False), (Above((6, 6, -1), (), {"one.p": 2}), False)):
            self.assertIs(shows_lies(BEAMS, value), wanted, value.parts)

    def test_not_strict(self):
        twice = Cone(["one.a"], [NOTHING, A, A])
        self.assertIs(shows_lies(twice, NoScene((5, 1, -1), (), {})), False)
        self.assertIs(shows_lies(twice, NoScene((5, 1, -1), (), {"one.a": 0})), False)
        self.assertIs(shows_lies(twice, NoScene((0, -1, 0), (), {"one.a": 1})), True)
        empty = Cone(["one.a"], [], [NOTHING])
        self.assertEqual([shows_lies(empty, NoScene((), (number,), {})) for number in (1, 0, -1, True, HALF, None)],
                         [True, False, False, False, True, False])

    def test_signs(self):
        row = Row({"one.a": 2, "one.b": -1})
        for value, wanted in ((Above((), (1,), {"one.a": 1}), True), (Above((), (1,), {"one.a": 1, "one.b": 0}), True),
                              (Above((), (2,), {"one.b": 1}), True), (Above((), (3,), {"one.a": -1, "one.b": 2}), False),
                              (Above((), (0,), {"one.a": 2, "one.b": -1}), False), (Below((), (1,), {"one.a": 1}), False),
                              (Zero(()), False), (Above((), (Ratio(1),), [["one.a", 1]]), True), (Above((), 1, {}), False)):
            self.assertIs(shows_signs(DEEP, row, value), wanted, value.parts)
        self.assertIs(shows_signs(DEEP, -row, Below((), (1,), {"one.a": 1})), True)
        self.assertEqual([shows_signs(DEEP, NOTHING, Zero(())), shows_signs(DEEP, NOTHING, Zero((0,))),
                          shows_signs(FLOOR, NOTHING, Zero((0, 0, 0))), shows_signs(FLOOR, NOTHING, Zero((0, 0))),
                          shows_signs(FLOOR, NOTHING, Zero((False, 0, 0))), shows_signs(PAIR, A, Above((), (), {"one.a": 1}))],
                         [True, False, True, False, False, True])
        self.assertIs(shows_signs(PAIR, NOTHING, Above((), (), {})), False)

    def test_mixed(self):
        row = Row({"one.a": 1, "one.b": -2})
        low, zero, high = {"one.a": 3, "one.b": 2}, {"one.a": 2, "one.b": 1}, {"one.a": 3, "one.b": 1}
        for parts, wanted in (((low, zero, high), True), ((high, zero, low), False), ((low, low, high), False),
                              ((low, zero, zero), False), ((zero, zero, high), False), (({}, zero, high), False),
                              (({"one.a": 1, "one.b": 2}, zero, high), False), ((low, zero, None), False),
                              ((low, list(zero.items())[::-1], high), True)):
            self.assertIs(shows_signs(DEEP, row, Mixed(*parts)), wanted, parts)

    def test_signs_of_rows(self):
        rows = [Row({"one.a": 1, "one.b": -2}), NOTHING]
        zero, high = {"one.a": 2, "one.b": 1}, {"one.a": 3, "one.b": 1}
        for value, wanted in ((Some(zero, high), True), (Some(high, zero), False), (Some(zero, zero), False),
                              (Some(zero, {"one.a": 1, "one.b": 1}), False), (Some(zero, None), False),
                              (AllZero([(), ()]), False), (NeverAll((0, 0), (1,), {}), False)):
            self.assertIs(shows_signs_of_rows(DEEP, rows, value), wanted, value.parts)
        never = [rows[0], Row({"one.a": 1, "one.b": -1})]
        self.assertEqual([shows_signs_of_rows(DEEP, never, NeverAll(*parts)) for parts in (
            ((0, -1), (1,), {}), ((-1, 1), (0,), {"one.a": 0, "one.b": -1}), ((1, -1), (0,), {"one.b": 1}),
            ((0, -1), (1,), {"one.a": 1}), ((0,), (1,), {}), ((0, 0), (0,), {}))],
            [True, False, True, False, False, False])
        one, two = FLOOR.zeros[0], FLOOR.zeros[2]
        for weights, wanted in ((((1, 0, 0), (0, 0, 1)), True), (((0, 0, 1), (1, 0, 0)), False), (((1, 0, 0),), False),
                                ((), False), (((1, 0, 0), (0, 0, 1), (0, 0, 0)), False), (((1, 0, 0), None), False), (None, False)):
            self.assertIs(shows_signs_of_rows(FLOOR, [one, two], AllZero(weights)), wanted, weights)

    def test_stretch(self):
        above, low = Above((), (0,), {"one.b": 1}), Above((), (1,), {})
        right = (1, None, (low, {"one.a": 1, "one.b": 1}), (None, {"one.a": 1}), above)
        for at, parts in ((None, right), (0, (HALF,)), (0, (None,)), (1, (5,)), (2, (low, {"one.a": 2, "one.b": 1})),
                          (2, (None, {"one.a": 1, "one.b": 1})), (2, (above, {"one.a": 1, "one.b": 1})), (2, (low, {})),
                          (2, (low, {"one.a": 1})), (2, (low,)), (2, None), (3, (None, {"one.b": 1})), (3, (None, {})),
                          (3, (low, {"one.a": 1})), (3, (False, {"one.a": 1})), (3, (None, {"one.a": 0})), (4, low), (4, None),
                          (3, (None, {"one.a": -1})), (0, (True,)), (3, (None, {"one.a": 2, "one.b": 1})), (3, (None, {"one.a": 1, "two.a": 0}))):
            if at is None:
                self.assertIs(shows_stretch(DEEP, A, B, Stretch(*right)), True)
                continue
            part = parts[0] if at in (0, 1) else parts
            self.assertIs(shows_stretch(DEEP, A, B, Stretch(*[*right[:at], part, *right[at + 1:]])), False, (at, parts))
        self.assertIs(shows_stretch(DEEP, A, B, Stretch(Ratio(1), *right[1:2], *[list(end) for end in right[2:4]], above)), True)
        for number, weights, over, wanted in ((2, (), above, True), (2, (), low, False), (2, (0,), above, False),
                                              (3, (), above, False), (True, (), above, False), (None, (), above, False),
                                              (Ratio(2), [], Above([], [0], [("one.b", 1)]), True), (2, (), None, False)):
            self.assertIs(shows_stretch(DEEP, B * 2, B, Even(number, weights, over)), wanted)

    def test_rays_of_labels_beside(self):
        cone = Cone(["one.a", "one.b", "one.c"], [], [Row({"one.a": 1, "one.b": -1})])
        above, low = Above((), (0,), {"one.b": 1}), Above((), (1,), {})
        less = Above((), (1,), {"one.b": Ratio(1, 2)})
        right = (1, None, (low, {"one.a": 1, "one.b": 1, "one.c": 4}), (None, {"one.a": 1, "one.c": 2}), above)
        self.assertEqual([shows_stretch(cone, A, B, Stretch(*parts)) for parts in (
            right, (HALF, None, (less, {"one.c": 1}), *right[3:]), (1, None, (low, {"one.c": 1}), *right[3:]),
            (*right[:3], (None, {"one.c": 1}), above), (None, None, (None, {"one.c": 1}), *right[3:]))], [True] + [False] * 4)

    def test_high_ends(self):
        wide = Cone(["one.a", "one.b"], [], [Row({"one.a": 1, "one.b": -2}), Row({"one.b": 3, "one.a": -1})])
        above = Above((), (0, 0), {"one.b": 1})
        low, high = (Above((), (1, 0), {}), {"one.a": 2, "one.b": 1}), (Above((), (0, 1), {}), {"one.a": 3, "one.b": 1})
        self.assertEqual([shows_stretch(wide, A, B, Stretch(*parts)) for parts in (
            (2, 3, low, high, above), (3, 2, high, low, above), (2, 3, high, low, above), (2, 3, low, low, above),
            (2, 2, low, low, above), (2, None, low, high, above), (2, True, low, high, above), (2, 4, low, high, above),
            (2, 3, low, (high[0], {"one.a": 4, "one.b": 1}), above))], [True] + [False] * 8)

    def test_cones_without_scenes_are_no_error(self):
        self.assertIs(shows_signs(BEAMS, Row({"one.p": 1}), Zero((0, 0, 0))), False)
        self.assertIs(shows_signs(BEAMS, NOTHING, Zero((0, 0, 0))), True)
        self.assertIs(shows_signs_of_rows(BEAMS, [NOTHING], AllZero([(0, 0, 0)])), True)
        self.assertIs(shows_stretch(BEAMS, NOTHING, NOTHING, Even(0, (0, 0, 0), Above((6, 6, -1), (), {"one.p": 2}))), True)
        self.assertIs(shows_stretch(DEEP, A, Row({"one.b": -1}), Even(1, (), None)), False)

    def test_any_values(self):
        self.assertIs(shows_lies(PAIR, Lies([("one.a", 1), (ANY, 1)])), False)
        self.assertIs(shows_lies(DEEP, Lies({"one.a": 2, "one.b": 1, "one.z": 1})), False)
        for value in (None, True, 0, "lies", (), [], {}, Odd(), Ratio(1), Lies, A, DEEP, Paper("lies", ()), Denial("x")):
            self.assertIs(shows_lies(DEEP, value), False)
            self.assertIs(shows_signs(DEEP, A, value), False)
            self.assertIs(shows_signs_of_rows(DEEP, [A], value), False)
            self.assertIs(shows_stretch(DEEP, A, B, value), False)
            for kind in (Lies, Zero, AllZero):
                self.assertIs(shows_lies(DEEP, kind(value)), False)
                self.assertIs(shows_signs(DEEP, A, kind(value)), False)
                self.assertIs(shows_signs_of_rows(DEEP, [A], kind(value)), False)
            for kind in (NoScene, Above, Below, Mixed, NeverAll, Even):
                self.assertIs(shows_lies(DEEP, kind(value, value, value)), False)
                self.assertIs(shows_signs(DEEP, A, kind(value, value, value)), False)
                self.assertIs(shows_signs_of_rows(DEEP, [A], kind(value, value, value)), False)
                self.assertIs(shows_stretch(DEEP, A, B, kind(value, value, value)), False)
            self.assertIs(shows_stretch(DEEP, A, B, Stretch(*[value] * 5)), False)

    def test_errors(self):
        for value in (None, True, "cone", Odd()):
            self.bad(BadCone, "cone", shows_lies, value, None)
            self.bad(BadCone, "cone", shows_signs, value, None, None)
            self.bad(BadCone, "cone", shows_signs_of_rows, value, None, None)
            self.bad(BadCone, "cone", shows_stretch, value, None, None, None)
        for value in (None, True, "0", {"one.a": 1}, Odd()):
            self.bad(BadRow, "row", shows_signs, DEEP, value, None)
            self.bad(BadRow, "top", shows_stretch, DEEP, value, None, None)
            self.bad(BadRow, "under", shows_stretch, DEEP, Row({"one.z": 1}), value, None)
        for value in NO_LISTS + ([], (), [A, None]):
            self.bad(BadRow, "rows", shows_signs_of_rows, DEEP, value, None)
        far = Row({"two.b": 1, "one.z": 1})
        self.raised(NoLabel, {"name": "one.z"}, shows_signs, DEEP, far, Zero(()))
        self.raised(NoLabel, {"name": "one.z"}, shows_signs_of_rows, BEAMS, [NOTHING, far], None)
        self.raised(NoLabel, {"name": "one.z"}, shows_stretch, DEEP, far, Row({"one.y": 1}), None)
        self.raised(NoLabel, {"name": "one.z"}, shows_stretch, DEEP, A, far, None)


class BentPapersTest(unittest.TestCase):
    """The checks take exactly the right ones of many bent papers."""

    def compare(self, source, papers, shows, right):
        taken = 0
        for paper in papers:
            for _ in range(12):
                value = type(paper)(*parts_bent(paper.parts, source))
                wanted = right(value)
                self.assertIs(shows(value), wanted, (type(value), value.parts))
                taken += wanted
        return taken

    def test_lies(self):
        source, taken = random.Random(21), 0
        for _ in range(150):
            cone = random_cone(source)
            taken += self.compare(source, [some_scene(cone)], lambda value: shows_lies(cone, value),
                                  lambda value: right_lies(cone, value))
        self.assertGreater(taken, 100)

    def test_signs(self):
        taken = 0
        for source, cone in possible_cones(22, 120):
            row = random_row(source, list(cone.labels))
            rows = [row] + list(cone.zeros[:1])
            taken += self.compare(source, [signs_of(cone, row)], lambda value: shows_signs(cone, row, value),
                                  lambda value: right_signs(cone, row, value))
            taken += self.compare(source, [signs_of_rows(cone, rows)], lambda value: shows_signs_of_rows(cone, rows, value),
                                  lambda value: right_signs_of_rows(cone, rows, value))
        self.assertGreater(taken, 200)

    def test_stretches(self):
        taken = 0
        for source, cone in possible_cones(23, 150):
            top, under = [random_row(source, list(cone.labels)) for _ in range(2)]
            try:
                paper = stretch(cone, top, under)
            except Unsettled:
                continue
            papers = [paper, paper, Even(*paper.parts[:2], paper.above)]
            for part in [end for end in paper.parts[2:4] if isinstance(end, tuple)]:
                if part[0] is not None:
                    bent_above = Above(*parts_bent(part[0].parts, source))
                    papers.append(type(paper)(*[(bent_above, end[1]) if end is part else end for end in paper.parts]))
            taken += self.compare(source, papers, lambda value: shows_stretch(cone, top, under, value),
                                  lambda value: right_stretch(cone, top, under, value))
        self.assertGreater(taken, 50)


if __name__ == "__main__":
    unittest.main()
