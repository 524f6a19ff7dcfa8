"""Lamps: how many times as high as a post they are."""

import random
import unittest
from fractions import Fraction

from alleyes.books import Book
from alleyes.errors import BadStanding, BadStep, Impossible, NoLabel, TwoPictures, Unsettled
from alleyes.facts import Along, Null
from alleyes.lamps import lamp_times
from alleyes.lights import Lamp, lit
from alleyes.pictures import Picture
from alleyes.shapes import tile_facts
from alleyes.standing import stand, way_of
from alleyes.steps import Step
from tests.painting import Look, World, det, plus, times
from tests.right_cones import right_stretch
from tests.support import NO_LABELS, Checks, Odd, value_of
from tests.test_standing import AGAIN, CORNER, EDGES, IMPOSSIBLE, TILE, between

WARD = Picture("one", {"a": (0, 0), "b": (6, 0), "c": (4, 2), "d": (2, 2), "e": (9, 0)})
LAMP = Lamp(between("a", "b"), between("a", "d"), "one.a", [("one.b", "one.e")])
LIT = stand(lit(Book([WARD], [Null(TILE)]), LAMP))


class LampsTest(unittest.TestCase, Checks):
    def test_example(self):
        found = lamp_times(LIT, "one.a", "one.b", "one.e")
        self.assertEqual([found.word, found.number], ["even", 3])
        self.assertEqual(lamp_times(standing=LIT, foot="one.b", post="one.a", end="one.e").word, "even")
        self.assertEqual(lamp_times(LIT, "one.b", "one.b", "one.e").number, 1)
        self.all_ratios([found.number])

    def test_in_space(self):
        """Beside a lamp and a post in space, seen over a floor of tiles."""
        source, found = random.Random(4), 0
        for _ in range(40):
            one, other, rise = [tuple(source.randint(-3, 3) for _ in range(3)) for _ in range(3)]
            if det(one, other, rise) == 0:
                continue
            foot, height = (0, 0, 0), source.randint(2, 4)
            post = plus(one, times(other, source.randint(-1, 1)))
            end = times(post, Fraction(height, height - 1))
            spots = {"a": foot, "b": one, "c": plus(one, other), "d": other, "p": post, "e": end}
            if len(set(spots.values())) < 6:
                continue
            world = World(spots, {"one": Look((1, 2, -60), ((1, 0, 0), (0, 1, 0), (0, 0, 1)), (0, 0), 3)}, {"one": list(spots)})
            if not world.is_fit():
                continue
            light = Lamp(between("a", "b"), between("a", "d"), "one.a", [("one.p", "one.e")])
            self.assertTrue(all(world.is_true(fact) for fact in light.facts))
            standing = stand(lit(Book(world.pictures(), tile_facts("one.a", "one.b", "one.c", "one.d")), light))
            try:
                told = lamp_times(standing, "one.a", "one.p", "one.e")
            except Unsettled:
                continue
            found += 1
            factors = [way_of(standing, between("e", label)).factor for label in "ap"]
            self.assertTrue(right_stretch(standing.heaps[0].cone, *factors, told))
            self.assertEqual((told.word, value_of(told.number)), ("even", height))
        self.assertGreater(found, 8)

    def test_ends(self):
        """Without the floor the times lie between two ends."""
        picture = Picture("one", {"a": (0, 0), "b": (2, 0), "e": (3, 0)})
        right = Step.right_of("one")
        standing = stand(Book([picture], [Along(between("e", "a"), right), Along(between("e", "b"), right)]))
        found = lamp_times(standing, "one.a", "one.b", "one.e")
        self.assertEqual([found.word, found.number], ["even", 3])
        tilted = Picture("one", {"a": (0, 0), "b": (2, 0), "e": (3, 0), "c": (0, 1), "d": (1, 1)})
        light = Lamp(between("a", "c"), between("a", "d"), "one.a", [("one.b", "one.e")])
        self.bad(Unsettled, "foot", lamp_times, stand(lit(Book([tilted]), light)), "one.a", "one.b", "one.e")

    def test_order_of_errors(self):
        two = stand(Book([CORNER, AGAIN], EDGES))
        for value in (None, LIT.book, Odd()):
            self.bad(BadStanding, "standing", lamp_times, value, None, None, None)
        for standing in (two, *IMPOSSIBLE.values()):
            for value in (*NO_LABELS, "one.z", "six.a"):
                self.raised(NoLabel, {"name": value}, lamp_times, standing, value, None, None)
                self.raised(NoLabel, {"name": value}, lamp_times, standing, "one.a", value, None)
                self.raised(NoLabel, {"name": value}, lamp_times, standing, "one.a", "one.a", value)
            self.bad(BadStep, "sum", lamp_times, standing, "one.a", "one.b", "one.a")
            self.bad(BadStep, "sum", lamp_times, standing, "one.a", "one.b", "one.b")
        for labels, names in ((("one.a", "two.a", "one.a"), ("one", "two")), (("two.a", "two.a", "one.a"), ("two", "one")),
                              (("two.a", "one.a", "one.a"), ("two", "one"))):
            for standing in (two, IMPOSSIBLE["neverone"]):
                self.raised(TwoPictures, dict(zip(("one", "other"), names)), lamp_times, standing, *labels)
        for word, standing in IMPOSSIBLE.items():
            self.raised(Impossible, {"word": word}, lamp_times, standing, "one.a", "one.b", "one.c")
        loose = stand(Book([WARD]))
        self.bad(Unsettled, "foot", lamp_times, loose, "one.a", "one.b", "one.e")
        half = stand(Book([WARD], [Along(between("a", "e"), Step.right_of("one"))]))
        self.bad(Unsettled, "post", lamp_times, half, "one.a", "one.b", "one.e")
        self.bad(Unsettled, "foot", lamp_times, half, "one.b", "one.a", "one.e")
        self.bad(Unsettled, "end", lamp_times, LIT, "one.a", "one.b", "one.d")
        self.bad(Unsettled, "end", lamp_times, LIT, "one.a", "one.e", "one.b")


if __name__ == "__main__":
    unittest.main()
