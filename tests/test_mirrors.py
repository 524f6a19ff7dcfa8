"""Mirrors: marks slid and mirrored, beside where the tests slide and mirror them in space."""

import random
import unittest

from alleyes.books import Book
from alleyes.drawn import drawn, drawn_form
from alleyes.errors import BadMark, BadStanding, BadStep, Impossible, NoLabel, NoPicture, NotJoined, TwoPictures, Unsettled
from alleyes.marks_seen import nth
from alleyes.mirrors import mirrored, mirrored_place, slid, slid_place
from alleyes.rows import Row
from alleyes.standing import stand, way_of
from alleyes.steps import Mark, Step
from tests.linked import factor_of, true_map
from tests.painting import box_nulls, cube_world, det, dot, minus, times, true_ties
from tests.support import NO_LABELS, Checks, Odd, value_of
from tests.test_standing import AGAIN, CORNER, EDGES, IMPOSSIBLE, JOINED, between
from tests.test_sun import HERE, YARD

GROUND = ["one.a", between("a", "b"), between("a", "d")]
UP, RIGHT = Step.up_of("one"), Step.right_of("one")
CALLS = (slid, mirrored, slid_place, mirrored_place)


def form_in_world(look, spot):
    """The form of a mark at a spot in space."""
    return look.form(minus(spot, look.place))


class MirrorsTest(unittest.TestCase, Checks):
    def test_example(self):
        top = Mark.of_point("one.t")
        self.assertEqual([[str(row) for row in mirrored(HERE, top, *GROUND, UP)][2], mirrored_place(HERE, top, *GROUND, UP).y], ["one.t 1", -3])
        self.assertEqual(slid_place(HERE, Mark.of_point("one.u"), *GROUND, between("t", "b")).x, 4)

    def test_forms(self):
        top = Mark.of_point("one.t")
        one, other = GROUND[1:]
        form = slid(standing=HERE, mark=top, base="one.a", one=one, other=other, ray=UP)
        self.assertIs(type(form), tuple)
        self.assertTrue(all(isinstance(row, Row) for row in form))
        self.assertEqual(slid(HERE, Mark.of_point("one.a"), *GROUND, UP), (Row({}), Row({}), Row({"one.a": 1})))
        self.assertEqual(mirrored(standing=HERE, mark=top, base="one.a", one=one, other=other, upright=UP), mirrored(HERE, top, *GROUND, UP))
        self.assertEqual(mirrored(HERE, top, *GROUND, between("a", "t")), mirrored(HERE, top, *GROUND, between("t", "a")))
        self.assertEqual(mirrored(HERE, top, "one.a", other, one, UP), mirrored(HERE, top, *GROUND, UP))
        self.assertEqual(slid_place(HERE, top, *GROUND, UP), drawn_form(HERE, "one", form))
        self.assertEqual(mirrored_place(HERE, top, *GROUND, UP), drawn_form(HERE, "one", mirrored(HERE, top, *GROUND, UP)))

    def test_in_space(self):
        """At the painted depths the forms are those of the spots to which the test slides and mirrors marks."""
        source, seen = random.Random(8), {}
        for _ in range(50):
            names = source.choice([("one",), ("one", "two"), ("two", "one")])
            world = cube_world(source, names, straight=source.random() < 0.5)
            facts = [fact for name in names for fact in box_nulls(world, name)] + true_ties(world)
            standing = stand(Book(world.pictures(), facts))
            name = source.choice(names)
            steps = [between(*source.choice(["ab", "ac", "ae", "bd", "ag", "be", "ah"]), source.choice(names)) for _ in range(3)]
            steps = [source.choice([Step.up_of, Step.right_of])(source.choice(names)) if source.random() < 0.15 else step for step in steps]
            one, other, ray = [world.led(step) for step in steps]
            mark, base = nth(f"{name}.a", f"{name}.{source.choice('bcdh')}", source.randint(-20, 20)), f"{name}.{source.choice('abcdefgh')}"
            if None in [way_of(standing, step) for step in steps]:
                continue
            size = det(one, other, ray)
            if size == 0:
                last = {slid: "ray", mirrored: "upright"}
                for call, part in last.items():
                    self.bad(Unsettled, part, call, standing, mark, base, *steps)
                seen["flat"] = True
                continue
            height = det(one, other, minus(world.led(mark), world.spot(base))) / size
            look, depths = world.looks[name], self.depths_of(world, standing, name)
            for call, place, many in ((slid, slid_place, 1), (mirrored, mirrored_place, 2)):
                spot = minus(world.led(mark), times(ray, height * many))
                wanted = form_in_world(look, spot)
                form = call(standing, mark, base, *steps)
                found = [value_of(row.at(depths)) for row in form]
                self.assertEqual(found, list(wanted))
                told = place(standing, mark, base, *steps)
                seen[told.word] = True
                if told.word == "drawn":
                    self.assertEqual((value_of(told.x), value_of(told.y)), look.paint(spot))
                elif told.word == "hidden":
                    self.assertLessEqual(wanted[2], 0)
        self.assertEqual(sorted(seen), ["drawn", "flat", "hidden"])

    def depths_of(self, world, standing, name):
        """The painted depths of the picture, and those of others of its heap as its scale tells them."""
        from tests.painting import ratio_of
        heap = standing.heap_of(name)
        scale = factor_of(heap.maps[name], true_map(world, name, heap.home))
        depths = {}
        for other in heap.names:
            own = factor_of(heap.maps[other], true_map(world, other, heap.home))
            depths.update({label: ratio_of(depth * scale / own) for label, depth in world.depths(other).items()})
        return depths

    def test_upright_mirrors(self):
        """By an upright a mark is mirrored as far behind the plane, twice mirrored it is the mark."""
        source = random.Random(9)
        world = cube_world(source, straight=True)
        standing = stand(Book(world.pictures(), box_nulls(world, "one")))
        ground = ["one.a", between("a", "b"), between("a", "c")]
        rise = between("a", "e")
        for letter in "efgh":
            top = Mark.of_point(f"one.{letter}")
            spot = world.spot(f"one.{letter}")
            low = mirrored_place(standing, top, *ground, rise)
            there = minus(spot, times(world.led(rise), 2))
            self.assertEqual(low.word == "drawn", world.looks["one"].depth(there) > 0)
            self.assertEqual(dot(minus(there, spot), world.led(ground[1])), 0)
            foot = drawn(standing, Mark.of_point(f"one.{'abcd'['efgh'.index(letter)]}"))
            found = slid_place(standing, top, *ground, rise)
            self.assertEqual((found.x, found.y), (foot.x, foot.y))

    def test_water(self):
        """A thing and what water shows of it: the mirrored mark is drawn where the other point is."""
        spots = {"a": (0, 0, 0), "b": (2, 0, 0), "c": (2, 0, 2), "d": (0, 0, 2), "t": (0, 1, 0), "u": (2, 1, 0), "r": (0, -1, 0)}
        from tests.painting import Look, World
        world = World(spots, {"one": Look((1, 3, -6), ((1, 0, 0), (0, 1, 0), (0, 0, 1)), (0, 0), 2)}, {"one": list(spots)})
        from alleyes.lights import Water, lit
        from alleyes.shapes import tile_facts
        water = Water("one.a", between("a", "b"), between("a", "d"), UP, [("one.t", "one.r")])
        self.assertTrue(all(world.is_true(fact) for fact in water.facts))
        standing = stand(lit(Book(world.pictures(), [*tile_facts("one.a", "one.b", "one.c", "one.d"), *tile_facts("one.a", "one.b", "one.u", "one.t")]), water))
        found = mirrored_place(standing, Mark.of_point("one.t"), "one.a", between("a", "b"), between("a", "d"), UP)
        place = standing.book.pictures[0].place_of("one.r")
        self.assertEqual([found.word, (found.x, found.y)], ["drawn", place])

    def test_order_of_errors(self):
        two = stand(Book([CORNER, AGAIN], EDGES))
        mark, gone = Mark.of_point("one.a"), Mark({"one.z": 2, "one.y": -1})
        lost, away, flat = Step.between("one.x", "one.w"), Step.up_of("six"), between("a", "b")
        for call in CALLS:
            last = "ray" if call in (slid, slid_place) else "upright"
            for value in (None, YARD, Odd()):
                self.bad(BadStanding, "standing", call, value, None, None, None, None, None)
            for standing in (two, *IMPOSSIBLE.values()):
                for value in (None, flat, "one.a", Odd()):
                    self.bad(BadMark, "mark", call, standing, value, None, None, None, None)
                for value in (*NO_LABELS, "one.z", "six.a"):
                    self.raised(NoLabel, {"name": value}, call, standing, gone, value, None, None, None)
                for value in (None, "up one", mark, Odd()):
                    self.bad(BadStep, "one", call, standing, gone, "one.a", value, None, None)
                    self.bad(BadStep, "other", call, standing, gone, "one.a", lost, value, None)
                    self.bad(BadStep, last, call, standing, gone, "one.a", lost, away, value)
                self.raised(NoLabel, {"name": "one.y"}, call, standing, gone, "one.a", away, lost, lost)
                self.raised(NoPicture, {"name": "six"}, call, standing, mark, "one.a", away, lost, lost)
                self.raised(NoLabel, {"name": "one.w"}, call, standing, mark, "one.a", UP, lost, away)
                self.raised(NoPicture, {"name": "six"}, call, standing, mark, "one.a", UP, UP, away)
            for standing in (two, IMPOSSIBLE["neverone"]):
                self.raised(TwoPictures, {"one": "one", "other": "two"}, call, standing, mark, "two.a", UP, UP, UP)
                self.raised(TwoPictures, {"one": "two", "other": "one"}, call, standing, Mark.of_point("two.b"), "one.a", UP, UP, UP)
            for word, standing in IMPOSSIBLE.items():
                self.raised(Impossible, {"word": word}, call, standing, mark, "one.a", UP, UP, UP)
            there = Step.up_of("two")
            loose = between("a", "b")
            for steps in ((UP, there, loose), (there, loose, loose), (loose, UP, there)):
                self.raised(NotJoined, {"one": "one", "other": "two"}, call, two, mark, "one.a", *steps)
            bare = stand(Book([CORNER]))
            self.bad(Unsettled, "one", call, bare, mark, "one.a", loose, loose, loose)
            self.bad(Unsettled, "other", call, bare, mark, "one.a", UP, loose, loose)
            self.bad(Unsettled, last, call, bare, mark, "one.a", UP, RIGHT, loose)
            self.bad(Unsettled, last, call, bare, mark, "one.a", UP, RIGHT, UP)
            self.bad(Unsettled, last, call, bare, mark, "one.a", UP, UP, RIGHT)
            self.assertIsNotNone(call(JOINED, mark, "one.a", UP, RIGHT, between("o", "c", "two")))


if __name__ == "__main__":
    unittest.main()
