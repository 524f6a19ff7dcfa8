"""Views: places, axes, numbers of places in space, feet and distances, eyes."""

import random
import unittest
from fractions import Fraction

from alleyes.errors import BadNumber, BadView
from alleyes.eyes import Eye
from alleyes.ratios import Ratio
from alleyes.views import View, eye_of
from tests.painting import axes_of, dot, minus, ratio_of
from tests.support import NO_RATIOS, Checks, Odd, value_of
from tests.test_solids import NO_PLACES

LEVEL = View.level((0, 0, 0), (3, 3), 3)
SLANTED = View((1, 2, 3), (2, 2, 1), (-2, 1, 2), (1, -2, 2), (Ratio(1, 2), -1), Ratio(5, 2))
PARTS = ((1, 2, 3), (2, 2, 1), (-2, 1, 2), (1, -2, 2), (Ratio(1, 2), -1), Ratio(5, 2))
NAMES = ("place", "right", "up", "ahead", "foot", "distance")


def parts_of(view):
    return view.place, view.right, view.up, view.ahead, view.foot, view.distance


class ViewsTest(unittest.TestCase, Checks):
    def test_attributes(self):
        view = View(place=[1, 2, 3], right=[2, 2, 1], up=[-2, 1, 2], ahead=[1, -2, 2], foot=[Ratio(1, 2), -1], distance=Ratio(5, 2))
        self.assertEqual([parts_of(view), view], [PARTS, SLANTED])
        for part in parts_of(view)[:5]:
            self.assertIs(type(part), tuple)
            self.all_ratios(part)
        self.all_ratios([view.distance, LEVEL.distance])
        self.assertEqual(parts_of(LEVEL), ((0, 0, 0), (1, 0, 0), (0, 1, 0), (0, 0, 1), (3, 3), 3))
        self.assertEqual(View.level(place=[0, 0, 0], foot=[3, 3], distance=3), LEVEL)

    def test_equality(self):
        self.assertTrue(View(*PARTS) == SLANTED and not View(*PARTS) != SLANTED)
        turned = View((1, 2, 3), (-2, 1, 2), (-2, -2, -1), (1, -2, 2), (Ratio(1, 2), -1), Ratio(5, 2))
        longer = View((1, 2, 3), (4, 4, 2), (-4, 2, 4), (2, -4, 4), (Ratio(1, 2), -1), Ratio(5, 2))
        for other in (LEVEL, turned, longer, SLANTED.moved((0, 0, 1)), SLANTED.framed((0, -1), Ratio(5, 2)),
                      SLANTED.framed((Ratio(1, 2), -1), 2),
                      parts_of(SLANTED), None, Odd()):
            self.assertTrue(SLANTED != other and not SLANTED == other)

    def test_order_of_errors(self):
        for at, name in enumerate(NAMES):
            wrong = NO_PLACES if at < 4 else (None, 1, "ab", {}, (), (1,), (1, 2, 3), (1, None), (True, 1), Odd())
            if name == "distance":
                wrong = (*NO_RATIOS, 0, -1, Ratio(-1, 2))
            for value in wrong:
                self.bad(BadView, name, View, *PARTS[:at], value, *[None] * (5 - at))
        for value in NO_PLACES:
            self.bad(BadView, "place", View.level, value, None, None)
        self.bad(BadView, "foot", View.level, (0, 0, 0), (1, 2, 3), None)
        self.bad(BadView, "distance", View.level, (0, 0, 0), (1, 2), 0)

    def test_axes(self):
        zero = (0, 0, 0)
        for right, up, ahead, part in (((1, 0, 0), (1, 1, 0), (0, 0, 1), "axes"), ((1, 0, 0), (0, 1, 0), (1, 0, 1), "axes"),
                                       ((1, 0, 0), (0, 1, 0), (0, 1, 1), "axes"),
                                       ((2, 0, 0), (0, 1, 0), (0, 0, 1), "axes"), ((1, 0, 0), (0, 1, 0), (0, 0, 2), "axes"),
                                       ((1, 0, 0), (0, 2, 0), (0, 0, 1), "axes"),
                                       (zero, zero, zero, "axes"), ((1, 0, 0), (1, 0, 0), (1, 0, 0), "axes"),
                                       (zero, (0, 1, 0), (0, 0, 1), "axes"),
                                       ((1, 0, 0), (0, 1, 0), (0, 0, -1), "ahead"), ((0, 1, 0), (1, 0, 0), (0, 0, 1), "ahead"),
                                       ((-2, -2, -1), (-2, 1, 2), (1, -2, 2), "ahead"),
                                       ((1, 0, 0), (0, -1, 0), (0, 0, 1), "ahead"),
                                       ((Ratio(-1, 2), 0, 0), (0, Ratio(1, 2), 0), (0, 0, Ratio(1, 2)), "ahead")):
            self.bad(BadView, part, View, (0, 0, 0), right, up, ahead, (0, 0), 1)
        source = random.Random(1)
        for _ in range(30):
            right, up, ahead = axes_of(source)
            self.assertEqual(View((0, 0, 0), right, up, ahead, (0, 0), 1).right, right)
            self.bad(BadView, "ahead", View, (0, 0, 0), up, right, ahead, (0, 0), 1)
            self.assertEqual(View((0, 0, 0), up, ahead, right, (0, 0), 1).ahead, right)

    def test_numbers(self):
        """So many times right, up and ahead lead from the view's place to the place."""
        self.assertEqual(LEVEL.numbers_of((3, -3, 9)), (3, -3, 9))
        source = random.Random(2)
        for _ in range(40):
            axes = axes_of(source)
            place = tuple(Fraction(source.randint(-5, 5), source.randint(1, 3)) for _ in range(3))
            view = View([ratio_of(part) for part in place], *axes, (1, 2), 3)
            spot = tuple(Fraction(source.randint(-9, 9), source.randint(1, 4)) for _ in range(3))
            found = view.numbers_of(place=[ratio_of(part) for part in spot])
            self.all_ratios(found)
            numbers = [value_of(part) for part in found]
            self.assertEqual(tuple(sum(number * axis[at] for number, axis in zip(numbers, axes)) for at in range(3)), minus(spot, place))
            self.assertEqual(numbers, [dot(minus(spot, place), axis) / dot(axis, axis) for axis in axes])
        for value in NO_PLACES:
            self.bad(BadNumber, "place", LEVEL.numbers_of, value)

    def test_moved_and_framed(self):
        self.assertEqual(parts_of(SLANTED.moved(by=[1, Ratio(1, 2), -3])), ((2, Ratio(5, 2), 0), *PARTS[1:]))
        self.assertEqual(parts_of(SLANTED.framed(foot=[7, Ratio(1, 3)], distance=4)), (*PARTS[:4], (7, Ratio(1, 3)), 4))
        for value in NO_PLACES:
            self.bad(BadNumber, "by", SLANTED.moved, value)
        for value in (None, 1, (), (1,), (1, 2, 3), (1, None)):
            self.bad(BadView, "foot", SLANTED.framed, value, None)
        for value in (*NO_RATIOS, 0, -1):
            self.bad(BadView, "distance", SLANTED.framed, (1, 2), value)

    def test_eyes(self):
        self.assertEqual([str(eye_of(LEVEL)), eye_of(view=SLANTED)], ["3 3 27", Eye(Ratio(1, 2), -1, Ratio(15, 2))])
        self.assertEqual(eye_of(SLANTED).height, Ratio(25, 4))
        for value in (None, (0, 0, 1), eye_of(LEVEL), Odd()):
            self.bad(BadView, "view", eye_of, value)


if __name__ == "__main__":
    unittest.main()
