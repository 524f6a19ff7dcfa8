"""Seconds: look rows, mates, one look, new looks, the one eye or several, beside sums of their own."""

import random
import unittest
from fractions import Fraction

from alleyes.books import Book
from alleyes.errors import BadEye, BadStanding, Impossible, NoPicture, NotJoined
from alleyes.eyes import Eye
from alleyes.facts import Far, Foot, Lengths, Upright
from alleyes.flats import EyeRow, Flat
from alleyes.highest import one_eye
from alleyes.links import map_between
from alleyes.papers import Denial, Paper
from alleyes.ratios import Ratio
from alleyes.seconds import SecondEye, Several, is_new_look, is_one_look, look_rows, mate_eye, second_eye
from alleyes.standing import stand
from alleyes.steps import Step
from tests.linked import columns, linked_world, mate_of, product_at, rank
from tests.painting import Look, World, box_nulls, cube_world, ratio_of, true_ties
from tests.support import NO_NAMES, Checks, Odd, value_of
from tests.test_links import LOOSELY, OA, OC
from tests.test_standing import AGAIN, CORNER, EDGES, IMPOSSIBLE, JOINED, TIES, between

NARROWED = stand(Book([CORNER, AGAIN], EDGES + TIES + (Lengths(OA, OC),)))


def as_eye(triple):
    return Eye(*[ratio_of(number) for number in triple])


def three(eye):
    return value_of(eye.a), value_of(eye.b), value_of(eye.s)


def four(row):
    return [value_of(number) for number in (row.a, row.b, row.c, row.g)]


def copies(source, many=3):
    """A box seen by parallel sheets: from several places, moved, enlarged, turned by a quarter; and by others."""
    world = cube_world(source, ("one",))
    looks = {"one": world.looks["one"]}
    for name in ("two", "three", "four")[:many]:
        first = looks["one"]
        right, up, ahead = first.axes
        for _ in range(source.randint(0, 3)):
            right, up = up, tuple(-number for number in right)
        place = tuple(number + Fraction(source.randint(-1, 1), 3) for number in first.place)
        looks[name] = Look(place, (right, up, ahead), (source.randint(-2, 2), source.randint(-2, 2)), source.randint(1, 3))
    world = World(world.spots, looks, {name: list(world.spots) for name in looks})
    return world if world.is_fit() else copies(source, many)


def book_of(world):
    return Book(world.pictures(), [fact for name in world.looks for fact in box_nulls(world, name)] + true_ties(world))


class SecondsTest(unittest.TestCase, Checks):
    def test_example(self):
        looks, mate = look_rows(JOINED, "one", "two"), mate_eye(JOINED, Eye(-1, 0, 2), "one", "two")
        self.assertEqual([[(row.a, row.b, row.c, row.g) for row in looks], (mate.a, mate.b, mate.s), bool(second_eye(JOINED, "two")),
                          second_eye(NARROWED, "two").parts], [[(0, 1, 0, 0), (2, 0, 1, 0)], (1, 0, 2), False, (Ratio(1, 2), 0, 1)])

    def test_papers(self):
        one, several = SecondEye(a=1, b=Ratio(1, 2), s=3), Several(one=[1, 2, 30], other=(1, 2, 31))
        self.assertEqual([one.word, one.a, one.b, one.s, bool(one)], ["secondeye", 1, Ratio(1, 2), 3, True])
        self.assertEqual([several.word, several.one, several.other, bool(several)], ["several", (1, 2, 30), (1, 2, 31), False])
        self.assertTrue(isinstance(one, Paper) and isinstance(several, Denial))

    def test_look_rows(self):
        """Rows of the products of what the map makes of right and up; the true eye is on them."""
        source = random.Random(1)
        for number in range(12):
            names = ("one", "two") if number & 1 else ("one", "two", "three")
            world, standing = linked_world(source, names)
            for one in names:
                for other in names:
                    rows = look_rows(standing=standing, one=one, other=other)
                    self.assertEqual([type(rows), len(rows), {type(row) for row in rows}], [tuple, 2, {EyeRow}])
                    r, u, _ = columns(map_between(standing, other, one).lines)
                    for eye in ((0, 0, 5), (2, -3, 20), (Fraction(1, 2), 1, 7)):
                        wanted = [product_at(r, u, eye), product_at(r, r, eye) - product_at(u, u, eye)]
                        self.assertEqual([value_of(row.at(as_eye(eye))) for row in rows], wanted)
                    self.assertTrue(all(row.at(as_eye(world.looks[one].eye())) == 0 for row in rows))
                    self.assertIs(is_one_look(standing=standing, one=one, other=other), all(row.is_nothing for row in rows))
            heap = standing.heaps[0]
            for name in names[1:]:
                lines = [line for line, source_of in zip(heap.flat.lines, heap.eye_sources) if source_of[0] == name]
                self.assertEqual(tuple(lines), look_rows(standing, heap.home, name))

    def test_mates(self):
        """The mate of the true eye is the true second eye; the mate of a mate is the first one."""
        source = random.Random(2)
        for number in range(12):
            names = ("one", "two") if number & 1 else ("two", "one", "three")
            world, standing = linked_world(source, names)
            for one in names:
                for other in names:
                    eye = as_eye(world.looks[one].eye())
                    mate = mate_eye(standing=standing, eye=eye, one=one, other=other)
                    self.assertEqual([type(mate), three(mate)], [Eye, world.looks[other].eye()])
                    self.assertEqual(mate_eye(standing, mate, other, one), eye)
                    self.assertEqual(mate_eye(standing, eye, one, one), eye)

    def test_any_eyes(self):
        """Each eye of the home's flat has mates; others are refused just if a look row is not 0."""
        source, refused = random.Random(3), 0
        for _ in range(24):
            world = copies(source, 2) if source.random() < 0.5 else cube_world(source, ("one", "two", "three"))
            standing = stand(book_of(world))
            names = list(world.looks)
            one, other = source.sample(names, 2)
            a, b = [Fraction(source.randint(-4, 4), 2) for _ in range(2)]
            eye = (a, b, a * a + b * b + source.randint(1, 9))
            if source.random() < 0.5:
                eye = world.looks[one].eye()
            mate = mate_of(map_between(standing, other, one).lines, eye)
            if mate is None:
                refused += 1
                self.bad(BadEye, "mate", mate_eye, standing, as_eye(eye), one, other)
            else:
                self.assertEqual(three(mate_eye(standing, as_eye(eye), one, other)), mate)
        self.assertTrue(0 < refused < 24)

    def test_one_look(self):
        """Parallel sheets are one look, both ways and on from picture to picture, others are not."""
        source = random.Random(4)
        for _ in range(10):
            world = copies(source)
            standing = stand(book_of(world))
            for one in world.looks:
                for other in world.looks:
                    self.assertIs(is_one_look(standing, one, other), True)
        for _ in range(10):
            world, standing = linked_world(source, ("one", "two"))
            axes = [look.axes[2] for look in world.looks.values()]
            parallel = not any(a * d - b * c for a, b, c, d in [(axes[0][i], axes[0][j], axes[1][i], axes[1][j]) for i,
                    j in ((0, 1), (1, 2), (0, 2))])
            for one, other in (("one", "two"), ("two", "one")):
                self.assertIs(is_one_look(standing, one, other), parallel and standing.heaps[0].flat.rank == 0)
                self.assertIs(is_one_look(standing, one, one), True)

    def test_new_look(self):
        """Alone; a copy is none; of others the rank of the flat with and without their rows tells."""
        source, seen = random.Random(5), {}
        self.assertEqual([is_new_look(standing=LOOSELY, name=name) for name in ("one", "two")], [True, True])
        for number in range(8):
            world = copies(source, 2) if number & 1 else cube_world(source, ("one", "two", "three"))
            if number % 3 == 0:
                first = world.looks["one"]
                world.looks["two"] = Look(first.place, first.axes, (1, 1), 2)
            if not world.is_fit():
                continue
            book = book_of(world)
            if number & 2:
                a, b, s = [ratio_of(part) for part in world.looks["one"].eye()]
                book = book.with_fact(Far("one", s)).with_fact(Foot("one", a, b))
            standing = stand(book)
            for name in world.looks:
                others = [picture for picture in book.pictures if picture.name != name]
                last = stand(Book([*others, book.picture_of(name)], book.facts)).heap_of(name)
                rows = [four(line) for line in last.flat.lines]
                left = [row for row, source_of in zip(rows, last.eye_sources) if source_of[0] != name]
                wanted = rank([row[:3] for row in rows]) > rank([row[:3] for row in left])
                seen[wanted] = True
                self.assertIs(is_new_look(standing, name), wanted)
                if number & 1 or number & 2:
                    self.assertIs(wanted, False)
        self.assertEqual(sorted(seen), [False, True])

    def test_second_eye(self):
        """The one eye of each picture, if the home has one; otherwise two of the picture's eyes with mates in the flat."""
        source, seen = random.Random(6), {}
        for number in range(30):
            names = source.choice([("one",), ("one", "two"), ("two", "one", "three")])
            world = copies(source, 1) if number & 1 else cube_world(source, names)
            book = book_of(world)
            right = [Upright(between(*pair), between(*other)) for pair, other in (("ab", "ac"), ("ab", "ae"), ("ac", "ae"))]
            for fact in right[:source.randint(0, 3)]:
                book = book.with_fact(fact)
            standing = stand(book)
            flat = standing.heaps[0].flat
            home = one_eye(flat)
            for name, look in world.looks.items():
                found = second_eye(standing=standing, name=name)
                seen[type(found)] = True
                self.assertEqual(found, second_eye(stand(book), name))
                if home is not None:
                    self.assertEqual(found, SecondEye(*[ratio_of(part) for part in look.eye()]))
                    self.all_ratios(found.parts)
                    continue
                lines = map_between(standing, standing.heaps[0].home, name).lines
                self.assertIs(type(found), Several)
                self.assertNotEqual(found.one, found.other)
                for triple in found.parts:
                    self.all_ratios(triple)
                    mate = mate_of(lines, triple)
                    self.assertIn(as_eye(mate), flat)
        self.assertEqual(len(seen), 2)

    def test_alone(self):
        """A picture alone: the flat is its own."""
        one = second_eye(LOOSELY, "one")
        self.assertEqual([one.word, one.one == one.other], ["several", False])
        fixed = stand(Book([CORNER, AGAIN], [Foot("two", 1, 2), Far("two", 9)]))
        self.assertEqual([second_eye(fixed, "two"), second_eye(fixed, "one").word], [SecondEye(1, 2, 9), "several"])
        self.assertEqual(Flat([]).rank, 0)
        self.assertEqual(mate_eye(LOOSELY, Eye(1, 2, 9), "two", "two"), Eye(1, 2, 9))
        self.assertEqual(look_rows(LOOSELY, "two", "two"), (EyeRow(0, 0, 0, 0),) * 2)

    def test_order_of_errors(self):
        eye = Eye(0, 0, 1)
        for value in (None, LOOSELY.book, "one", Odd()):
            self.bad(BadStanding, "standing", look_rows, value, None, None)
            self.bad(BadStanding, "standing", is_one_look, value, None, None)
            self.bad(BadStanding, "standing", is_new_look, value, None)
            self.bad(BadStanding, "standing", mate_eye, value, None, None, None)
            self.bad(BadStanding, "standing", second_eye, value, None)
        for standing in (JOINED, LOOSELY, *IMPOSSIBLE.values()):
            for value in (*NO_NAMES, "six", "one.a"):
                for call in (look_rows, is_one_look):
                    self.raised(NoPicture, {"name": value}, call, standing, value, value)
                    self.raised(NoPicture, {"name": value}, call, standing, "one", value)
                    self.raised(NoPicture, {"name": value}, call, standing, value, "one")
                for call in (is_new_look, second_eye):
                    self.raised(NoPicture, {"name": value}, call, standing, value)
                self.raised(NoPicture, {"name": value}, mate_eye, standing, eye, value, value)
                self.raised(NoPicture, {"name": value}, mate_eye, standing, eye, "one", value)
            for value in (None, (0, 0, 1), "0 0 1", Step.up_of("one"), Odd()):
                self.bad(BadEye, "eye", mate_eye, standing, value, None, None)
        for word, standing in IMPOSSIBLE.items():
            fields = {"word": word}
            self.raised(Impossible, fields, look_rows, standing, "one", "one")
            self.raised(Impossible, fields, is_one_look, standing, "one", "one")
            self.raised(Impossible, fields, is_new_look, standing, "one")
            self.raised(Impossible, fields, mate_eye, standing, eye, "one", "one")
            self.raised(Impossible, fields, second_eye, standing, "one")
        for one, other in (("one", "two"), ("two", "one")):
            fields = {"one": one, "other": other}
            self.raised(NotJoined, fields, look_rows, LOOSELY, one, other)
            self.raised(NotJoined, fields, is_one_look, LOOSELY, one, other)
            self.raised(NotJoined, fields, mate_eye, LOOSELY, eye, one, other)
        self.raised(Impossible, {"word": "neverone"}, look_rows, IMPOSSIBLE["neverone"], "one", "two")
        self.bad(BadEye, "mate", mate_eye, JOINED, eye, "one", "two")


if __name__ == "__main__":
    unittest.main()
