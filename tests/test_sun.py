"""The sun: shadows of posts, and how high it stands."""

import random
import unittest

from alleyes.books import Book
from alleyes.drawn import drawn
from alleyes.errors import BadNumber, BadStanding, BadStep, Impossible, NoLabel, TwoPictures
from alleyes.facts import Along, Null, SameWay
from alleyes.lights import Sun, lit
from alleyes.pictures import Picture
from alleyes.ratios import Ratio
from alleyes.sayings import Longer, Shorter
from alleyes.shapes import tile_facts
from alleyes.standing import stand
from alleyes.steps import Mark, Step
from alleyes.sun import shadow_mark, sun_above, sun_below
from alleyes.words import Waits, word_of
from tests.painting import Look, World, plus, times
from tests.support import NO_LABELS, NO_RATIOS, Checks, Odd
from tests.test_standing import EDGES, CORNER, AGAIN, IMPOSSIBLE, TILE, between

YARD = Book([Picture("one", {"a": (0, 0), "b": (6, 0), "c": (4, 2), "d": (2, 2), "t": (0, 3), "u": (2, 3)})],
            [Null(TILE), Along(between("a", "t"), Step.up_of("one")), Along(between("d", "u"), Step.up_of("one"))])
NOON = Sun([("one.t", "one.b"), ("one.u", "one.c")])
HERE = stand(YARD)
NAMES = ("one.u", "one.d", "one.t", "one.a", "one.b")


class SunTest(unittest.TestCase, Checks):
    def test_example(self):
        self.assertEqual([str(NOON), len(NOON), str(shadow_mark(HERE, *NAMES))], ["sun one.t one.b / one.u one.c", 1, "one.a -1 one.b 1 one.d 1"])
        self.assertEqual([str(drawn(HERE, Mark({"one.a": -1, "one.b": 1, "one.d": 1})).x),
                          word_of(stand(lit(YARD, NOON)), sun_above("one.t", "one.a", "one.b")).word], ["4", "never"])

    def test_marks(self):
        self.assertEqual(shadow_mark(standing=HERE, top="one.t", foot="one.a", lit_top="one.u", lit_foot="one.d", lit_end="one.c"),
                         Mark({"one.a": 1, "one.c": 1, "one.d": -1}))
        self.assertEqual(shadow_mark(HERE, "one.t", "one.a", "one.u", "one.d", "one.d"), Mark.of_point("one.a"))
        self.assertEqual(shadow_mark(HERE, "one.t", "one.a", "one.t", "one.a", "one.b"), Mark.of_point("one.b"))

    def test_waits(self):
        post, mate = between("d", "u"), between("a", "t")
        loose = stand(Book(YARD.pictures, YARD.facts[:1]))
        for facts, steps in ((YARD.facts[:1], [post, mate]), (YARD.facts[:2], [post]), ([YARD.facts[0], YARD.facts[2]], [mate])):
            found = shadow_mark(stand(Book(YARD.pictures, facts)), *NAMES)
            self.assertEqual(found, Waits(steps))
            self.assertIs(type(found), Waits)
        self.assertEqual(shadow_mark(loose, "one.u", "one.d", "one.u", "one.d", "one.c"), Waits([post]))
        turned = shadow_mark(HERE, "one.u", "one.d", "one.b", "one.a", "one.c")
        self.assertEqual(turned, Waits([post, between("a", "b")]))
        self.assertEqual(shadow_mark(HERE, "one.u", "one.d", "one.a", "one.t", "one.c"), Waits([post, between("t", "a")]))
        apart = stand(Book(YARD.pictures, YARD.facts[1:]))
        self.assertEqual(shadow_mark(apart, *NAMES), Waits([post, mate]))

    def test_in_space(self):
        """The told mark is where the shadow ends in space, for posts of several heights on a floor of tiles."""
        source = random.Random(2)
        found = 0
        for _ in range(40):
            one, other, rise = [tuple(source.randint(-3, 3) for _ in range(3)) for _ in range(3)]
            heights, shade = source.sample([1, 2, 3, 4], 2), (source.randint(-2, 2), source.randint(1, 2))
            feet = [(0, 0, 0), plus(one, other)]
            tops = [plus(foot, times(rise, height)) for foot, height in zip(feet, heights)]
            led = plus(times(one, shade[0]), times(other, shade[1]))
            end = plus(feet[0], times(led, heights[0]))
            top_too = plus(feet[1], times(rise, heights[0]))
            spots = dict(zip("abcdtuex", [feet[0], one, feet[1], other, tops[0], tops[1], end, top_too]))
            if len(set(spots.values())) < 8:
                continue
            world = World(spots, {"one": Look((1, 2, -50), ((1, 0, 0), (0, 1, 0), (0, 0, 1)), (0, 0), 3)}, {"one": list(spots)})
            if not world.is_fit():
                continue
            facts = [*tile_facts("one.a", "one.b", "one.c", "one.d"), *tile_facts("one.a", "one.c", "one.x", "one.t"),
                     Null(Step({"one.u": heights[0], "one.x": -heights[1], "one.c": heights[1] - heights[0]}))]
            self.assertTrue(all(world.is_true(fact) for fact in facts))
            mark = shadow_mark(stand(Book(world.pictures(), facts)), "one.u", "one.c", "one.t", "one.a", "one.e")
            if type(mark) is Mark:
                found += 1
                self.assertEqual(world.led(mark), plus(feet[1], times(led, heights[1])))
        self.assertGreater(found, 8)

    def test_sayings(self):
        post, shadow = between("a", "t"), between("a", "b")
        self.assertEqual([sun_above("one.t", "one.a", "one.b"), sun_below(top="one.t", foot="one.a", end="one.b", p=2, q=Ratio(1, 3))],
                         [Longer(post, shadow), Shorter(post, shadow, 2, Ratio(1, 3))])
        self.assertEqual([sun_below("one.t", "one.a", "one.b"), sun_above("one.t", "one.a", "one.b", 3)], [Shorter(post, shadow), Longer(post, shadow, 3, 1)])
        for call in (sun_above, sun_below):
            for value in NO_LABELS:
                self.raised(NoLabel, {"name": value}, call, value, None, None, None, None)
                self.raised(NoLabel, {"name": value}, call, "one.a", value, None, None, None)
                self.raised(NoLabel, {"name": value}, call, "one.a", "one.a", value, None, None)
            for value in (*NO_RATIOS, 0, -1, Ratio(-1, 2)):
                self.bad(BadNumber, "p", call, "one.a", "one.a", "two.a", value, None)
                self.bad(BadNumber, "q", call, "one.a", "one.a", "two.a", 1, value)
            self.raised(TwoPictures, {"one": "one", "other": "two"}, call, "two.a", "one.b", "one.b")
            self.bad(BadStep, "sum", call, "one.b", "one.b", "two.b")
            self.bad(BadStep, "sum", call, "one.a", "one.b", "one.b")

    def test_order_of_errors(self):
        two = stand(Book([CORNER, AGAIN], EDGES))
        for value in (None, YARD, Odd()):
            self.bad(BadStanding, "standing", shadow_mark, value, *[None] * 5)
        for standing in (two, *IMPOSSIBLE.values()):
            for value in (*NO_LABELS, "one.z", "six.a"):
                for at in range(5):
                    self.raised(NoLabel, {"name": value}, shadow_mark, standing, *["one.a"] * at, value, *[None] * (4 - at))
            self.bad(BadStep, "sum", shadow_mark, standing, "one.a", "one.a", "one.a", "one.b", "one.c")
            self.bad(BadStep, "sum", shadow_mark, standing, "one.a", "one.b", "one.b", "one.b", "one.c")
        for labels, other in ((("two.a", "one.a", "one.a", "one.a", "one.a"), ("one", "two")), (("one.a", "two.a", "two.a", "two.a", "two.a"), ("two", "one")),
                              (("one.a", "one.a", "one.a", "one.a", "two.a"), ("one", "two"))):
            self.raised(TwoPictures, dict(zip(("one", "other"), other)), shadow_mark, two, *labels)
            self.raised(TwoPictures, dict(zip(("one", "other"), other)), shadow_mark, IMPOSSIBLE["neverone"], *labels)
        for word, standing in IMPOSSIBLE.items():
            self.raised(Impossible, {"word": word}, shadow_mark, standing, "one.a", "one.b", "one.a", "one.b", "one.c")

    def test_shadows_in_space(self):
        """What the shadows of the sun tell of the sun's height holds in space."""
        spots = {"a": (0, 0, 0), "b": (4, 0, 0), "t": (0, 3, 0), "d": (0, 0, 4), "c": (4, 0, 4), "u": (0, 3, 4)}
        world = World(spots, {"one": Look((1, 5, -8), ((1, 0, 0), (0, 1, 0), (0, 0, 1)), (0, 0), 2)}, {"one": list(spots)})
        up, right = Step.up_of("one"), Step.right_of("one")
        posts = [Along(between("a", "t"), up), SameWay(right, between("a", "b"))]
        self.assertEqual([word_of(stand(Book(world.pictures(), facts)), sun_above("one.t", "one.a", "one.b")).word for facts in
                          (posts[:1], posts[1:], posts)], ["waits", "waits", "never"])
        tiles = [*tile_facts("one.a", "one.t", "one.u", "one.d"), *tile_facts("one.a", "one.b", "one.c", "one.d"), Along(between("a", "t"), up),
                 Along(between("a", "b"), right)]
        told = stand(Book(world.pictures(), tiles))
        self.assertEqual([word_of(told, call("one.t", "one.a", "one.b", *numbers)).word for call, numbers in
                          ((sun_above, (1, 1)), (sun_below, (1, 1)), (sun_above, (1, 2)), (sun_below, (9, 16)), (sun_above, (9, 16)))],
                         ["never", "always", "always", "never", "never"])


if __name__ == "__main__":
    unittest.main()
