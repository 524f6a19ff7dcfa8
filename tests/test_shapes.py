"""Shapes: the facts that they tell, and that these are true of such things in space."""

import random
import unittest

from alleyes.errors import BadFact, BadStep, NoLabel, Twice, TwoPictures
from alleyes.facts import Lengths, Null, SameWay, Upright
from alleyes.shapes import fence_facts, post_facts, row_facts, stair_facts, tile_facts
from alleyes.steps import Mark, Step
from tests.painting import Look, World
from tests.support import NO_LABELS, Checks, Odd

A, B, C, D, E, F = [f"one.{letter}" for letter in "abcdef"]
UP = Step.up_of("one")
NO_FLAGS = (None, 0, 1, "True", [], (True,), Odd())


def null(**terms):
    return Null(Step({f"one.{letter}": number for letter, number in terms.items()}))


class ShapesTest(unittest.TestCase, Checks):
    def test_facts(self):
        tile = (null(a=1, b=-1, c=1, d=-1),)
        sides = (Step.between(A, B), Step.between(A, D))
        self.assertEqual([tile_facts(A, B, C, D), tile_facts(A, B, C, D, upright=True), tile_facts(a=A, b=B, c=C, d=D, even=True)],
                         [tile, (*tile, Upright(*sides)), (*tile, Lengths(*sides))])
        self.assertEqual(tile_facts(A, B, C, D, even=True, upright=True), (*tile, Upright(*sides), Lengths(*sides)))
        self.assertEqual(row_facts(C, A, B), (null(b=1, a=-2, c=1),))
        self.assertEqual(row_facts(A, B, C, D), (null(c=1, b=-2, a=1), null(d=1, c=-2, b=1)))
        self.assertEqual(stair_facts(A, B, C, D, E), (null(d=1, c=-1, b=-1, a=1), null(e=1, d=-1, c=-1, b=1)))
        self.assertEqual(post_facts(A, B, UP), (SameWay(Step.between(B, A), UP),))
        self.assertEqual(post_facts(top=A, foot=B, up=Step.between(C, D)), (SameWay(Step.between(B, A), Step.between(C, D)),))
        self.assertEqual(fence_facts((A, B), [C, D]), (null(c=1, d=-1, a=-1, b=1),))
        self.assertEqual(fence_facts((A, B), [C, D], (E, F)), (null(c=1, d=-1, a=-1, b=1), null(e=1, f=-1, a=-1, b=1), null(f=1, d=-2, b=1)))
        for found in (tile_facts(A, B, C, D), row_facts(A, B, C), stair_facts(A, B, C, D), post_facts(A, B, UP), fence_facts([A, B], [C, D])):
            self.assertIs(type(found), tuple)

    def test_true(self):
        """What is told of a shape is true of one in space."""
        source = random.Random(3)
        look = Look((0, 0, -99), ((1, 0, 0), (0, 1, 0), (0, 0, 1)), (0, 0), 1)
        for _ in range(20):
            start, one, other = [tuple(source.randint(-5, 5) for _ in range(3)) for _ in range(3)]

            def at(m, n):
                return tuple(p + m * q + n * r for p, q, r in zip(start, one, other))
            for spots, facts in (([at(0, 0), at(1, 0), at(1, 1), at(0, 1)], tile_facts(A, B, C, D)),
                                 ([at(0, 0), at(1, 0), at(2, 0), at(3, 0)], row_facts(A, B, C, D)),
                                 ([at(0, 0), at(1, 0), at(1, 1), at(2, 1), at(2, 2)], stair_facts(A, B, C, D, E)),
                                 ([at(0, 1), at(0, 0), at(1, 1), at(1, 0), at(2, 1), at(2, 0)], fence_facts((A, B), (C, D), (E, F)))):
                world = World(dict(zip("abcdef", spots)), {"one": look}, {"one": list("abcdef")[:len(spots)]})
                self.assertTrue(all(world.is_true(fact) for fact in facts))

    def test_no_labels(self):
        for value in NO_LABELS:
            self.raised(NoLabel, {"name": value}, tile_facts, value, None, None, None, upright=None)
            self.raised(NoLabel, {"name": value}, tile_facts, A, "two.a", A, value, even=None)
            self.raised(NoLabel, {"name": value}, row_facts, A, value)
            self.raised(NoLabel, {"name": value}, stair_facts, value)
            self.raised(NoLabel, {"name": value}, post_facts, value, None, None)
            self.raised(NoLabel, {"name": value}, post_facts, A, value, None)
            self.raised(NoLabel, {"name": value}, fence_facts, (A, value), (None, A))
            self.raised(NoLabel, {"name": value}, fence_facts, (A, A), ("two.a", value))

    def test_flags(self):
        for value in NO_FLAGS:
            self.bad(BadFact, "upright", tile_facts, A, A, "two.a", D, upright=value, even=None)
            self.bad(BadFact, "even", tile_facts, A, A, "two.a", D, upright=True, even=value)
        for value in (None, "up one", A, Mark.of_point(A), Odd()):
            self.bad(BadStep, "up", post_facts, A, "two.a", value)
            self.bad(BadStep, "up", post_facts, A, A, value)

    def test_different_labels_of_one_picture(self):
        for call, labels in ((tile_facts, [A, B, C, D]), (row_facts, [A, B, C, D]), (stair_facts, [A, B, C, D]), (row_facts, [A, B]),
                             (stair_facts, [A, B])):
            for at in range(1, len(labels)):
                other = [*labels[:at], "two.x", *labels[at + 1:]]
                self.raised(TwoPictures, {"one": "one", "other": "two"}, call, *other)
                self.raised(TwoPictures, {"one": "one", "other": "two"}, call, *[*other[:-1], "two.x" if at == len(labels) - 1 else A])
                self.raised(Twice, {"name": A}, call, *[*labels[:at], A, *labels[at + 1:]])
        self.raised(Twice, {"name": C}, tile_facts, A, C, C, A)
        self.raised(TwoPictures, {"one": "one", "other": "two"}, post_facts, A, "two.b", UP)
        self.raised(Twice, {"name": A}, post_facts, A, A, UP)
        self.raised(TwoPictures, {"one": "one", "other": "two"}, fence_facts, (A, A), (B, "two.b"))
        self.raised(Twice, {"name": B}, fence_facts, (A, B), (B, A))

    def test_too_few(self):
        for labels in ((), (A,), (A, B)):
            self.bad(BadFact, "labels", row_facts, *labels)
            self.bad(BadFact, "labels", stair_facts, *labels)
        self.bad(BadFact, "labels", stair_facts, A, B, C)
        for posts in ((), ((A, B),), ((A, B), A), ((A, B), (C,)), ((A, B), (C, D, E)), ((None, B), None), (3, (A, B)), ({A: B}, (C, D)),
                      ("ab", "cd")):
            self.bad(BadFact, "posts", fence_facts, *posts)


if __name__ == "__main__":
    unittest.main()
