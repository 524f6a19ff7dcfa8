"""Lights: their facts, errors, texts; and that what they tell is true of shadows and mirrors in space."""

import random
import unittest
from fractions import Fraction

from alleyes.books import Book
from alleyes.errors import BadBook, BadLight, BadStep, BadText, NoLabel, NoPicture, TooMany, TwoPictures
from alleyes.facts import Far, InPlane, Null, SameWay, Upright
from alleyes.lights import Lamp, Light, Mirror, Sun, Water, lit
from alleyes.ratios import Ratio
from alleyes.standing import stand
from alleyes.steps import Mark, Step
from tests.painting import LETTERS, Look, World, cross, det, dot, minus, plus, times
from tests.support import NO_LABELS, NO_LISTS, NO_TEXTS, Checks, Odd
from tests.test_standing import AB, AD, ONE, TILE, UP, between

A, B, C, D, E, T, U = [f"one.{letter}" for letter in "abcdetu"]
HALF = Ratio(1, 2)
NOON = Sun([(T, B), [U, C]])
LAMP = Lamp(AB, AD, A, [(B, E), (C, D)])
WATER = Water(A, AB, AD, UP, [(T, U), (A, B)])
MIRROR = Mirror(A, AB, UP, [[T, U], [B, C], (D, E)])
LIGHTS = [NOON, LAMP, WATER, MIRROR]
TEXTS = ["sun one.t one.b / one.u one.c", "lamp one.a -1 one.b 1 | one.a -1 one.d 1 | one.a | one.b one.e / one.c one.d",
         "water one.a | one.a -1 one.b 1 | one.a -1 one.d 1 | up one | one.t one.u / one.a one.b",
         "mirror one.a | one.a -1 one.b 1 | up one | one.t one.u / one.b one.c / one.d one.e"]
NO_PAIRS = [*NO_LISTS, [], (), [A], [A, B], [(A,)], [(A, B, C)], [(A, B), None], [(A, B), "ab"], [{A: B, B: A}], "ab", ["ab"]]


class LightsTest(unittest.TestCase, Checks):
    def test_facts(self):
        self.assertEqual([NOON.facts, len(NOON), len(Sun([(T, B)]))], [(SameWay(between("t", "b"), between("u", "c")),), 1, 0])
        three = Sun(pairs=[(T, B), (U, C), (A, D)])
        self.assertEqual(three.facts, (SameWay(between("t", "b"), between("u", "c")), SameWay(between("t", "b"), between("a", "d"))))
        wanted = []
        for post, end in (("b", "e"), ("c", "d")):
            near, far = between("a", post), between(post, end)
            wanted += [InPlane(near, AB, AD), InPlane(far, AB, AD), SameWay(near, far)]
        self.assertEqual([list(LAMP.facts), len(LAMP)], [wanted, 6])
        first, second = Step({T: HALF, U: HALF, A: -1}), Step({A: -HALF, B: HALF})
        self.assertEqual(list(WATER.facts), [InPlane(first, AB, AD), SameWay(between("u", "t"), UP), InPlane(second, AB, AD), SameWay(between("b", "a"), UP)])
        middles = [first, Step({B: HALF, C: HALF, A: -1}), Step({D: HALF, E: HALF, A: -1})]
        ways = [between("t", "u"), between("b", "c"), between("d", "e")]
        self.assertEqual(list(MIRROR.facts), [*[InPlane(middle, AB, UP) for middle in middles], SameWay(ways[0], ways[1]), SameWay(ways[0], ways[2]),
                                              Upright(ways[0], AB), Upright(ways[0], UP)])
        self.assertEqual(len(Mirror(A, AB, UP, [(T, U)])), 3)

    def test_attributes(self):
        self.assertEqual([NOON.pairs, LAMP.one, LAMP.other, LAMP.foot, LAMP.posts], [((T, B), (U, C)), AB, AD, A, ((B, E), (C, D))])
        self.assertEqual([WATER.base, WATER.one, WATER.other, WATER.upright, WATER.pairs], [A, AB, AD, UP, ((T, U), (A, B))])
        self.assertEqual([MIRROR.base, MIRROR.one, MIRROR.other, MIRROR.pairs], [A, AB, UP, ((T, U), (B, C), (D, E))])
        for light in LIGHTS:
            self.assertTrue(isinstance(light, Light) and type(light.facts) is tuple)
        named = [Sun(pairs=[(T, B), [U, C]]), Lamp(one=AB, other=AD, foot=A, posts=[(B, E), (C, D)]),
                 Water(base=A, one=AB, other=AD, upright=UP, pairs=[(T, U), (A, B)]), Mirror(base=A, one=AB, other=UP, pairs=[[T, U], [B, C], (D, E)])]
        self.assertEqual(named, LIGHTS)

    def test_equal(self):
        for at, light in enumerate(LIGHTS):
            for k, other in enumerate(LIGHTS):
                self.assertEqual([light == other, light != other], [at == k, at != k])
            self.assertFalse(light == str(light) or light == light.facts or light is None)
        self.assertFalse(NOON == Sun([(U, C), (T, B)]) or Sun([(T, B)]) == Sun([(T, C)]))
        self.assertFalse(Lamp(AB, AD, A, [(B, E)]) == Lamp(AB, AD, A, [(B, C)]) or Lamp(AB, AD, A, [(B, E)]) == Lamp(AB, UP, A, [(B, E)]))
        self.assertFalse(Water(A, AB, AD, UP, [(T, U)]) == Water(B, AB, AD, UP, [(T, U)]) or Mirror(A, AB, UP, [(T, U)]) == Mirror(A, AB, AD, [(T, U)]))
        pairs = [[T, B]]
        kept = Sun(pairs)
        pairs[0][1] = C
        self.assertEqual(kept.pairs, ((T, B),))

    def test_wrong_parameters(self):
        for value in NO_PAIRS:
            self.bad(BadLight, "pairs", Sun, value)
            self.bad(BadLight, "posts", Lamp, AB, AD, A, value)
            self.bad(BadLight, "pairs", Water, A, AB, AD, UP, value)
            self.bad(BadLight, "pairs", Mirror, A, AB, AD, value)
        for value in (None, "up one", Mark.of_point(A), Odd()):
            self.bad(BadStep, "one", Lamp, value, None, None, None)
            self.bad(BadStep, "other", Lamp, AB, value, None, None)
            self.bad(BadStep, "one", Water, A, value, None, None, None)
            self.bad(BadStep, "other", Water, A, AB, value, None, None)
            self.bad(BadStep, "upright", Water, A, AB, AD, value, None)
            self.bad(BadStep, "one", Mirror, A, value, None, None)
            self.bad(BadStep, "other", Mirror, A, AB, value, None)
        for value in NO_LABELS:
            for call, args in ((Sun, ([(T, T), (U, value)],)), (Sun, ([(value, None)],)), (Lamp, (AB, AD, value, None)), (Lamp, (AB, AD, A, [(A, A), (value, B)])),
                               (Water, (value, None, None, None, None)), (Water, (A, AB, AD, UP, [(T, T), (A, value)])),
                               (Mirror, (value, None, None, None)), (Mirror, (A, AB, AD, [("two.t", T), (value, A)]))):
                self.raised(NoLabel, {"name": value}, call, *args)

    def test_pairs_that_do_not_fit(self):
        fields = {"one": "one", "other": "two"}
        self.raised(TwoPictures, fields, Sun, [(T, B), (U, "two.c"), (A, A)])
        self.bad(BadStep, "sum", Sun, [(T, T), (U, "two.c")])
        self.assertEqual(len(Sun([(T, B), ("two.u", "two.c")])), 1)
        self.raised(TwoPictures, fields, Lamp, AB, AD, A, [("two.b", "two.b")])
        self.raised(TwoPictures, fields, Lamp, AB, AD, A, [(B, "two.e"), (A, E)])
        self.bad(BadStep, "sum", Lamp, AB, AD, A, [(A, "two.e")])
        self.bad(BadStep, "sum", Lamp, AB, AD, A, [(B, B), (B, "two.e")])
        self.assertEqual(len(Lamp(AB, AD, A, [(B, A)])), 3)
        self.raised(TwoPictures, fields, Water, A, AB, AD, UP, [("two.a", "two.a")])
        self.raised(TwoPictures, fields, Water, A, AB, AD, UP, [(T, "two.a")])
        self.bad(BadStep, "sum", Water, A, AB, AD, UP, [(A, A)])
        self.bad(BadStep, "sum", Water, A, AB, AD, UP, [(T, T), (T, "two.a")])
        self.raised(TwoPictures, fields, Mirror, A, AB, AD, [(T, "two.a"), (T, T)])
        self.raised(TwoPictures, fields, Mirror, A, AB, AD, [("two.a", "two.a")])
        self.bad(BadStep, "sum", Mirror, A, AB, AD, [(T, T)])
        self.bad(BadStep, "sum", Mirror, A, AB, AD, [(T, U), (A, A)])

    def test_texts(self):
        self.assertEqual([str(light) for light in LIGHTS], TEXTS)
        for light, text in zip(LIGHTS, TEXTS):
            for call in (Light.read, type(light).read):
                self.assertEqual(call(text), light)
                self.assertIs(type(call(text)), type(light))
                self.bad_words(call, text)
            for other in LIGHTS:
                if other is not light:
                    self.bad_text(0, type(other).read, text)
            for value in NO_TEXTS:
                self.bad_text(0, type(light).read, value)
        for at, last in ((0, ()), (1, (3, 8)), (2, (5, 10)), (3, (5,))):
            words = TEXTS[at].split(" ")
            right = [many for many in range(len(words)) if words[many] == "/"]
            self.bad_beginnings(Light.read, TEXTS[at], last, right)

    def test_wrong_words(self):
        start = "one.a -1 one.b 1 | up one"
        for text, word in (("sun one.t one.t", 2), ("sun one.t two.b", 2), ("sun one.t one.b | one.u one.c", 3), ("sun one.t one.b / one.u", 5),
                           ("sun one.t one.b /", 4), ("sun | one.t one.b", 1), ("moon one.t one.b", 0), ("", 0), (f"lamp {start} | one.a | one.a one.b", 11),
                           (f"lamp {start} | one.a | two.a two.b", 11), (f"lamp {start} | one.a | one.b two.b", 12), (f"lamp {start} | one.a | one.b one.b", 12),
                           (f"lamp {start} | one.a | one.b one.a / one.c one.c", 15), ("lamp one.a -1 one.b 2 | up one | one.a | one.b one.c", 5),
                           ("lamp one.a -1 one.b 2", 4), (f"water one.a | {start} | right one | two.a one.b", 14),
                           (f"water one.a | {start} | right one | one.t one.t", 15), (f"water one.a | {start} | right one | one.a one.b", None),
                           (f"water one.a | {start} | one.t one.u", 12), (f"mirror one.a | {start} | one.t two.u", 12),
                           (f"mirror one.a | {start} | one.t one.t", 12), (f"mirror one.a | {start} | one.t one.u / two.t two.u", 14),
                           (f"mirror one.a | {start} | up one | one.t one.u", 11), ("mirror right one | up one | up one | one.t one.u", 1)):
            if word is None:
                self.assertEqual(str(Light.read(text)), text)
            else:
                self.bad_text(word, Light.read, text)
        self.assertRaises(BadText, Sun.read, "sun  one.t one.b")

    def test_lit(self):
        book = Book([ONE], [Null(TILE)])
        sun, lamp = Sun([(C, B), (D, A)]), Lamp(AB, AD, A, [(B, C)])
        self.assertEqual(lit(book, sun, lamp), Book([ONE], [Null(TILE), *sun.facts, *lamp.facts]))
        self.assertEqual([lit(book), lit(book, Sun([(C, B)])), len(book.facts)], [book, book, 1])
        for value in (None, ONE, [book], Odd()):
            self.bad(BadBook, "book", lit, value, None)
        for value in (None, [sun], sun.facts, str(sun), Odd()):
            self.bad(BadLight, "lights", lit, book, value)
            self.bad(BadLight, "lights", lit, book, NOON, value)
        self.raised(NoLabel, {"name": "one.t"}, lit, book, NOON)
        self.raised(NoPicture, {"name": "six"}, lit, book, Mirror(A, Step.up_of("six"), AB, [(C, D)]))
        self.raised(TooMany, {"what": "facts", "most": 60}, lit, Book([ONE], [Far("one", 1)] * 58), lamp)
        self.assertEqual(len(lit(Book([ONE], [Far("one", 1)] * 57), lamp).facts), 60)

    def test_true_in_space(self):
        """The facts of lights are true where the test casts shadows and mirrors things; they leave the book possible."""
        source = random.Random(6)
        for _ in range(12):
            one, other = self.plane(source)
            base = (0, 0, 0)
            normal = cross(one, other)

            def in_plane():
                return plus(times(one, Fraction(source.randint(-4, 4), 2)), times(other, Fraction(source.randint(-4, 4), 2)))
            upright = normal if det(one, other, normal) > 0 else times(normal, -1)
            tops = [plus(in_plane(), times(upright, Fraction(source.randint(1, 3), 6))) for _ in range(3)]
            ray = plus(times(one, source.randint(-1, 1)), plus(times(other, 1), times(upright, Fraction(-1, 2))))
            ends = [plus(top, times(ray, -dot(top, normal) / dot(ray, normal))) for top in tops]
            seen = [minus(top, times(normal, 2 * dot(top, normal) / dot(normal, normal))) for top in tops]
            feet = [minus(top, times(normal, dot(top, normal) / dot(normal, normal))) for top in tops]
            bulb = plus(feet[0], times(upright, 2))
            shadows = [plus(bulb, times(minus(top, bulb), -dot(bulb, normal) / dot(minus(top, bulb), normal))) for top in tops]
            spots = [base, one, other, *tops, *ends, *seen, *feet[1:], *shadows[1:], feet[0]]
            names = LETTERS[:len(spots)]
            world = World(dict(zip(names, spots)), {"one": Look((1, 2, -60), ((1, 0, 0), (0, 1, 0), (0, 0, 1)), (0, 0), 3)}, {"one": list(names)})
            if not world.visible():
                continue
            label = {spot: f"one.{name}" for name, spot in reversed(list(world.spots.items()))}
            here = [Step.between("one.a", "one.b"), Step.between("one.a", "one.c")]
            rise = Step.between(label[feet[0]], label[tops[0]])
            lights = [Sun([(label[top], label[end]) for top, end in zip(tops, ends) if top != end]),
                      Water("one.a", *here, rise, [(label[top], label[low]) for top, low in zip(tops, seen)]),
                      Mirror("one.a", *here, [(label[top], label[low]) for top, low in zip(tops, seen)])]
            posts = [(label[foot], label[end]) for foot, end in zip(feet[1:], shadows[1:]) if len({foot, end, feet[0]}) == 3]
            if posts:
                lights.append(Lamp(*here, label[feet[0]], posts))
            for light in lights:
                for fact in light.facts:
                    self.assertTrue(world.is_true(fact), str(fact))
            if world.is_fit():
                self.assertTrue(stand(lit(Book(world.pictures()), *lights)).is_possible)

    def plane(self, source):
        while True:
            one, other = [tuple(source.randint(-3, 3) for _ in range(3)) for _ in range(2)]
            if any(cross(one, other)):
                return one, other


if __name__ == "__main__":
    unittest.main()
