"""Solids: corners in space, portions, solids moved and enlarged."""

import unittest
from fractions import Fraction

from alleyes.errors import BadNumber, BadSolid, NoName, TooMany, Twice
from alleyes.ratios import Ratio
from alleyes.solids import Solid
from tests.support import NO_NAMES, NO_RATIOS, Checks, Odd, value_of

SLAB = Solid({"a": (-3, -3, 3), "b": (3, -3, 3), "c": (3, -3, 9), "d": (-3, -3, 9)})
NO_PLACES = (None, True, 1, "abc", {}, Odd(), (), (1, 2), (1, 2, 3, 4), [1, 2, None], (1, True, 3), ("1", 2, 3), (1, 2, 1.5), ((1, 2, 3),))


class SolidsTest(unittest.TestCase, Checks):
    def test_attributes(self):
        told = {"b": [1, Ratio(1, 2), -3], "a1": (0, 0, 0), "a": (0, 0, 0)}
        solid = Solid(corners=told)
        told["z"] = (1, 1, 1)
        told["b"][0] = 7
        self.assertEqual([solid.names, solid.corners], [("a", "a1", "b"),
                                                        (("a", (0, 0, 0)), ("a1", (0, 0, 0)), ("b", (1, Ratio(1, 2), -3)))])
        self.assertTrue(all(type(part) is tuple for part in (solid.names, solid.corners, *solid.corners,
                *[spot for _, spot in solid.corners])))
        for _, spot in solid.corners:
            self.all_ratios(spot)
        self.assertEqual([solid.spot_of(name="b"), solid.spot_of("a")], [(1, Ratio(1, 2), -3), (0, 0, 0)])
        self.all_ratios(solid.spot_of("b"))
        self.assertEqual([len(solid), list(solid), list(iter(solid)), "a" in solid, "z" in solid],
                         [3, ["a", "a1", "b"], ["a", "a1", "b"], True, False])
        for value in (*NO_NAMES, ("a",), 1.5):
            self.assertIs(value in solid, False)
            self.raised(NoName, {"name": value}, solid.spot_of, value)
        self.raised(NoName, {"name": "z"}, solid.spot_of, "z")

    def test_equality(self):
        again = Solid({"d": [-3, -3, 9], "c": (Ratio(3), -3, 9), "b": (3, -3, 3), "a": (-3, -3, 3)})
        self.assertTrue(again == SLAB and not again != SLAB)
        for other in (Solid({**dict(SLAB.corners), "a": (-3, -3, 4)}), Solid({**dict(SLAB.corners), "e": (0, 0, 0)}),
                      SLAB.portion(["a", "b"]),
                      SLAB.corners, dict(SLAB.corners), None, Odd(), "a"):
            self.assertTrue(SLAB != other and not SLAB == other)

    def test_errors(self):
        for value in (None, True, 1, "a", [], (), {}, [("a", (1, 2, 3))], Odd(), SLAB, *[{"a": (1, 2, 3), "b": part} for part in NO_PLACES],
                      *[{name: (1, 2, 3)} for name in NO_NAMES if name.__hash__]):
            self.bad(BadSolid, "corners", Solid, value)
        names = [f"p{number}" for number in range(41)]
        self.assertEqual(len(Solid({name: (1, 2, 3) for name in names[:40]})), 40)
        self.raised(TooMany, {"what": "corners", "most": 40}, Solid, {name: (1, 2, 3) for name in names})
        self.bad(BadSolid, "corners", Solid, {**{name: (1, 2, 3) for name in names}, "z": None})

    def test_portion(self):
        part = SLAB.portion(names=["d", "a"])
        self.assertEqual(part, Solid({"a": (-3, -3, 3), "d": (-3, -3, 9)}))
        self.assertEqual(SLAB.portion(("a", "b", "c", "d")), SLAB)
        for value in (None, "ab", 1, {"a": 1}, [], (), Odd()):
            self.bad(BadSolid, "names", SLAB.portion, value)
        for value in (*NO_NAMES, "z", ("a",)):
            self.raised(NoName, {"name": value}, SLAB.portion, ["a", "a", value, "y"])
        self.raised(Twice, {"name": "b"}, SLAB.portion, ["a", "b", "c", "b", "a"])

    def test_moved(self):
        moved = SLAB.moved(by=[1, Ratio(1, 2), -2])
        self.assertEqual(moved.corners, tuple((name, (x + 1, y + Ratio(1, 2), h - 2)) for name, (x, y, h) in SLAB.corners))
        self.assertEqual([SLAB.moved((0, 0, 0)), moved.moved((-1, Ratio(-1, 2), 2))], [SLAB, SLAB])
        for value in NO_PLACES:
            self.bad(BadNumber, "by", SLAB.moved, value)

    def test_enlarged(self):
        """Each corner lies m times as far from the place, the same way."""
        for place, m in (((0, 0, 0), 2), ((1, 2, Fraction(1, 2)), Fraction(2, 3)), ((-3, -3, 3), 5), ((7, 7, 7), 1)):
            made = SLAB.enlarged(place=[Ratio(Fraction(part).numerator, Fraction(part).denominator) for part in place],
                                 m=Ratio(Fraction(m).numerator, Fraction(m).denominator))
            for name, spot in made.corners:
                self.assertEqual([value_of(part) for part in spot], [at + (value_of(own) - at) * m for own,
                        at in zip(SLAB.spot_of(name), place)])
        self.assertEqual(SLAB.enlarged((7, 7, 7), 1), SLAB)
        for value in NO_PLACES:
            self.bad(BadNumber, "place", SLAB.enlarged, value, None)
        for value in (*NO_RATIOS, 0, -1, Ratio(0), Ratio(-1, 2)):
            self.bad(BadNumber, "m", SLAB.enlarged, (0, 0, 0), value)


if __name__ == "__main__":
    unittest.main()
