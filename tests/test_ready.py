"""Boxes, cross ratios, measures along ways."""

import random
import unittest
from fractions import Fraction

from alleyes.books import Book
from alleyes.cones import Above
from alleyes.errors import BadFact, BadNumber, BadPicture, BadStanding, BadStep, Impossible, NoLabel, NoPicture, NotJoined, Twice
from alleyes.errors import TwoPictures, Unsettled
from alleyes.facts import Along, Null, Upright
from alleyes.pictures import Picture
from alleyes.ratios import Ratio
from alleyes.ready import Box, cross_ratio, part_way
from alleyes.shapes import tile_facts
from alleyes.standing import stand
from alleyes.steps import Mark, Step
from tests.painting import box_nulls, cube_world, det, minus
from tests.right_cones import right_stretch
from tests.right_words import between_labels, dotted, plane
from tests.support import NO_INTEGERS, NO_LABELS, NO_LISTS, Checks, Odd, value_of
from tests.test_drawn import BARE, PAVED, WIDER
from tests.test_standing import AGAIN, CORNER, EDGES, IMPOSSIBLE, between

RIGHT, UP = Step.right_of("one"), Step.up_of("one")
EXAMPLE = ["one.a", "one.b", "one.d", "one.c", "one.e", None, None, None]


def corner(number):
    """The four numbers of a corner, 1 ahead."""
    return [1] + [number >> bit & 1 for bit in range(3)]


def solutions(kept, wanted):
    """The one sum of kept corners that is a corner, by trying minors; None if there is none."""
    rows = [corner(number) for number in kept]
    # Kept corners are no sums of one another, so Gauss leaves one solution or none.
    size = len(rows)
    table = [[Fraction(rows[k][at]) for k in range(size)] + [Fraction(corner(wanted)[at])] for at in range(4)]
    done = 0
    for column in range(size):
        found = [at for at in range(done, 4) if table[at][column]]
        table[done], table[found[0]] = table[found[0]], table[done]
        head = table[done][column]
        table[done] = [number / head for number in table[done]]
        for at in range(4):
            if at != done and table[at][column]:
                factor = table[at][column]
                table[at] = [number - factor * other for number, other in zip(table[at], table[done])]
        done += 1
    if any(table[at][-1] for at in range(done, 4)):
        return None
    return {number: table[at][-1] for at, number in enumerate(kept) if table[at][-1]}


class BoxTest(unittest.TestCase, Checks):
    def test_example(self):
        box = Box(EXAMPLE)
        self.assertEqual([[str(fact.step) for fact in box.facts], str(box.marks[7]), str(box.edge(2)), len(box.right_angles())],
                         [["one.a 1 one.b -1 one.c 1 one.d -1"], "one.a -2 one.b 1 one.d 1 one.e 1", "one.a -1 one.e 1", 3])
        self.assertEqual(str(Box.read("one.a - - - - - - one.b").marks[0]), "one.a 1")
        part = part_way(PAVED, "one.e", "one.a", "one.d", RIGHT, UP)
        self.assertEqual([part.low, part.high], [Ratio(-1, 2), None])

    def test_all_choices(self):
        """Each choice of labelled corners, beside elimination of the test's own."""
        for choice in range(1, 256):
            labels = [f"one.{letter}" if choice >> number & 1 else None for number, letter in enumerate("abcdefgh")]
            box = Box(labels)
            kept, facts = [], []
            for number, label in enumerate(labels):
                if label is not None:
                    found = solutions(kept, number)
                    if found is None:
                        kept.append(number)
                    else:
                        terms = {labels[other]: Ratio(-part.numerator, part.denominator) for other, part in found.items()}
                        facts.append(Null(Step({**terms, label: 1})))
            self.assertEqual([box.labels, list(box.facts)], [tuple(labels), facts])
            for number, mark in enumerate(box.marks):
                found = solutions(kept, number)
                if labels[number] is not None:
                    self.assertEqual(mark, Mark.of_point(labels[number]))
                elif found is None:
                    self.assertIsNone(mark)
                else:
                    self.assertEqual(mark, Mark({labels[other]: Ratio(part.numerator, part.denominator) for other, part in found.items()}))
            edges = []
            for edge in range(3):
                starts = [start for start in range(8) if not start >> edge & 1 and box.marks[start] is not None
                          and box.marks[start + (1 << edge)] is not None]
                wanted = box.marks[starts[0] + (1 << edge)] - box.marks[starts[0]] if starts else None
                self.assertEqual(box.edge(edge), wanted)
                edges.append(wanted)
            pairs = [(edges[0], edges[1]), (edges[0], edges[2]), (edges[1], edges[2])]
            self.assertEqual(box.right_angles(), tuple(Upright(*pair) for pair in pairs if None not in pair))
            self.assertEqual([type(box.facts), type(box.marks), Box.read(str(box)) == box], [tuple, tuple, True])

    def test_true(self):
        source = random.Random(1)
        world = cube_world(source)
        box = Box([f"one.{letter}" for letter in "abcdefgh"])
        self.assertEqual([fact.step for fact in box.facts][:3], [fact.step for fact in box_nulls(world, "one")][:3])
        self.assertTrue(all(world.is_true(fact) for fact in (*box.facts, *box.right_angles())))

    def test_equal(self):
        box = Box(labels=tuple(EXAMPLE))
        self.assertTrue(box == Box(EXAMPLE) and not box != Box(EXAMPLE))
        self.assertTrue(box != Box(EXAMPLE[::-1]) and box != tuple(EXAMPLE) and box != str(box) and box is not None)

    def test_errors(self):
        for value in (*NO_LISTS, [], EXAMPLE[:7], EXAMPLE + [None], [None] * 8, (None,) * 8, "abcdefgh"):
            self.bad(BadFact, "labels", Box, value)
        for value in NO_LABELS:
            if value is not None:
                self.raised(NoLabel, {"name": value}, Box, [None, "one.a", "two.a", "one.a", value, None, 3, 4])
        self.raised(TwoPictures, {"one": "two", "other": "one"}, Box, [None, "two.a", "two.a", "one.a", None, None, None, "zwo.a"])
        self.raised(Twice, {"name": "one.b"}, Box, ["one.a", None, "one.b", "one.c", "one.b", "one.a", None, None])
        for value in (*NO_INTEGERS, -1, 3, 8):
            self.bad(BadNumber, "number", Box(EXAMPLE).edge, value)

    def test_texts(self):
        for text in (str(Box(EXAMPLE)), "one.a - - - - - - one.b", "- - - - - - - two.a", "a.a a.b a.c a.d a.e a.f a.g a.h"):
            self.bad_words(Box.read, text)
            self.bad_beginnings(Box.read, text)
        for text, word in (("- - - - - - - -", 7), ("one.a two.b - - - - - -", 1), ("- one.a - one.a - - - -", 3),
                           ("- one.a - one.b - - - two.c", 7), ("None - - - - - - one.a", 0), ("", 0), ("one.a - - - - - - - -", 8)):
            self.bad_text(word, Box.read, text)


class CrossRatioTest(unittest.TestCase, Checks):
    def test_numbers(self):
        source = random.Random(2)
        for _ in range(40):
            start, way = [source.randint(-3, 3) for _ in range(2)], [source.randint(-2, 2) for _ in range(2)]
            if not any(way):
                continue
            times = source.sample([Fraction(number, 2) for number in range(-6, 7)], 4)
            places = [tuple(Ratio(number.numerator, number.denominator) for number in
                            (start[0] + way[0] * many, start[1] + way[1] * many)) for many in times]
            picture = Picture("one", dict(zip("pqrs", places)))
            p, q, r, s = times
            found = cross_ratio(picture, "one.p", "one.q", "one.r", "one.s")
            self.assertEqual(value_of(found), (r - p) * (s - q) / ((r - q) * (s - p)))
            self.all_ratios([found])
        upright = Picture("one", {"p": (1, 0), "q": (1, 1), "r": (1, 3), "s": (1, 7)})
        self.assertEqual(cross_ratio(upright, "one.p", "one.q", "one.r", "one.s"), Ratio(9, 7))
        self.assertIsNone(cross_ratio(WIDER, p="one.a", q="one.b", r="one.c", s="one.d"))

    def test_in_space(self):
        """Four points on a line in space are drawn with its cross ratio."""
        source = random.Random(4)
        for _ in range(20):
            world = cube_world(source)
            times = source.sample([0, 1, Fraction(1, 2), Fraction(1, 3), Fraction(3, 4)], 4)
            one, other = world.spots["a"], world.spots["h"]
            world.spots = {name: tuple(a + (b - a) * many for a, b in zip(one, other)) for name, many in zip("pqrs", times)}
            world.seen = {"one": list("pqrs")}
            if world.is_fit():
                p, q, r, s = times
                found = cross_ratio(world.pictures()[0], *[f"one.{letter}" for letter in "pqrs"])
                self.assertEqual(value_of(found), (r - p) * (s - q) / Fraction((r - q) * (s - p)))

    def test_errors(self):
        for value in (None, "one", Odd(), Book([WIDER])):
            self.bad(BadPicture, "picture", cross_ratio, value, None, None, None, None)
        for value in (*NO_LABELS, "one.z", "two.a"):
            for at in range(4):
                labels = ["one.a", "one.a", "one.a"][:at] + [value] + [None] * (3 - at)
                self.raised(NoLabel, {"name": value}, cross_ratio, WIDER, *labels)
        self.raised(Twice, {"name": "one.b"}, cross_ratio, WIDER, "one.a", "one.b", "one.b", "one.a")


class PartWayTest(unittest.TestCase, Checks):
    def test_painted(self):
        """The told measure is that of space, with papers reckoned anew."""
        source, seen = random.Random(3), {}
        for _ in range(16):
            world = cube_world(source, straight=source.random() < 0.5)
            facts = [fact for fact in box_nulls(world, "one") if source.random() < 0.85]
            standing = stand(Book(world.pictures(), facts))
            for _ in range(12):
                label, one, other = [f"one.{letter}" for letter in source.sample("abcdefgh", 3)]
                side, mate = [source.choice([RIGHT, UP, *[between(*pair) for pair in ("ab", "ac", "ae", "cd", "eg")]]) for _ in range(2)]
                numbers = plane(standing, side, mate)
                if numbers is None:
                    continue
                under = dotted(between_labels(standing, one, other), numbers)
                true = [det(world.led(side), world.led(mate), minus(world.spot(end), world.spot(one))) for end in (label, other)]
                try:
                    found = part_way(standing, label, one, other, side, mate)
                except Unsettled as error:
                    self.assertEqual(error.part, "other")
                    seen["other"] = True
                    continue
                top = dotted(between_labels(standing, one, label), numbers)
                rows = (top, under) if self.reads(standing, under, found) else (-top, -under)
                self.assertTrue(right_stretch(standing.heaps[0].cone, *rows, found))
                seen[found.word] = True
                number = true[0] / true[1]
                if found.word == "even":
                    self.assertEqual(value_of(found.number), number)
                else:
                    self.assertTrue(found.low is None or value_of(found.low) < number)
                    self.assertTrue(found.high is None or number < value_of(found.high))
        self.assertEqual(sorted(seen), ["even", "other", "stretch"])

    def reads(self, standing, under, found):
        from tests.right_cones import right_signs
        return type(found.above) is Above and right_signs(standing.heaps[0].cone, under, found.above)

    def test_ends(self):
        self.assertEqual([part_way(PAVED, label, "one.a", "one.d", RIGHT, UP).number for label in ("one.a", "one.d", "one.c", "one.b")],
                         [0, 1, 1, 0])
        self.assertEqual(part_way(standing=PAVED, label="one.a", one="one.d", other="one.b", side=UP, mate=RIGHT).number, 1)
        self.all_ratios([part_way(PAVED, "one.a", "one.a", "one.d", RIGHT, UP).number])

    def test_order_of_errors(self):
        two = stand(Book([CORNER, AGAIN], EDGES))
        lost, away = Step.between("one.z", "one.y"), Step.up_of("six")
        for value in (None, PAVED.book, Odd()):
            self.bad(BadStanding, "standing", part_way, value, None, None, None, None, None)
        for standing in (two, *IMPOSSIBLE.values()):
            for value in (*NO_LABELS, "one.z", "six.a"):
                self.raised(NoLabel, {"name": value}, part_way, standing, value, None, None, None, None)
                self.raised(NoLabel, {"name": value}, part_way, standing, "one.a", value, None, None, None)
                self.raised(NoLabel, {"name": value}, part_way, standing, "one.a", "one.a", value, None, None)
            for value in (None, "right one", Mark.of_point("one.a"), Odd()):
                self.bad(BadStep, "side", part_way, standing, "one.a", "one.a", "one.a", value, None)
                self.bad(BadStep, "mate", part_way, standing, "one.a", "one.a", "one.a", lost, value)
            self.raised(Twice, {"name": "one.a"}, part_way, standing, "one.b", "one.a", "one.a", lost, away)
            self.raised(NoLabel, {"name": "one.y"}, part_way, standing, "one.b", "one.a", "one.b", lost, away)
            self.raised(NoPicture, {"name": "six"}, part_way, standing, "one.b", "one.a", "one.b", away, lost)
            self.raised(NoPicture, {"name": "six"}, part_way, standing, "one.b", "one.a", "one.b", UP, away)
        self.raised(TwoPictures, {"one": "one", "other": "two"}, part_way, two, "one.b", "two.a", "two.a", lost, lost)
        self.raised(TwoPictures, {"one": "two", "other": "one"}, part_way, IMPOSSIBLE["neverone"], "two.b", "two.a", "one.a", lost, lost)
        for word, standing in IMPOSSIBLE.items():
            self.raised(Impossible, {"word": word}, part_way, standing, "one.b", "one.a", "one.b", UP, UP)
        there = Step.up_of("two")
        self.raised(NotJoined, {"one": "one", "other": "two"}, part_way, two, "one.b", "one.a", "one.b", there, between("b", "c"))
        self.raised(NotJoined, {"one": "one", "other": "two"}, part_way, two, "one.b", "one.a", "one.b", between("b", "c"), there)
        self.bad(Unsettled, "side", part_way, BARE, "one.b", "one.a", "one.b", between("a", "b"), between("a", "b"))
        self.bad(Unsettled, "mate", part_way, BARE, "one.b", "one.a", "one.b", UP, between("a", "b"))
        self.bad(Unsettled, "mate", part_way, BARE, "one.b", "one.a", "one.b", UP, UP)
        self.bad(Unsettled, "mate", part_way, PAVED, "one.b", "one.a", "one.b", RIGHT, between("a", "b"))
        self.bad(Unsettled, "mate", part_way, PAVED, "one.b", "one.a", "one.b", RIGHT, between("b", "a"))
        self.bad(Unsettled, "other", part_way, BARE, "one.b", "one.a", "one.b", RIGHT, UP)
        self.bad(Unsettled, "other", part_way, PAVED, "one.d", "one.a", "one.b", RIGHT, UP)

    def test_facts(self):
        self.assertEqual(tile_facts("one.a", "one.b", "one.c", "one.d"), PAVED.book.facts)
        taller = Picture("one", {"a": (0, 0), "b": (6, 0), "c": (4, 2), "d": (2, 2), "e": (2, 5)})
        post = stand(Book([taller], [*PAVED.book.facts, Along(between("d", "e"), UP)]))
        self.assertEqual(part_way(post, "one.e", "one.a", "one.d", RIGHT, UP).number, 1)


if __name__ == "__main__":
    unittest.main()
