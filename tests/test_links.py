"""Links: maps between pictures, forms and directions in another picture, beside sums of their own over boxes in space."""

import random
import unittest

from alleyes.books import Book
from alleyes.drawn import drawn, drawn_form
from alleyes.errors import BadMark, BadStanding, BadStep, Impossible, NoLabel, NoPicture, NotJoined, Unsettled
from alleyes.facts import Along, Fact, Tie
from alleyes.forms import form_of
from alleyes.links import Apart, Joined, direction_in, drawn_in, form_in, map_between
from alleyes.maps import map_back, map_behind
from alleyes.papers import Denial, Paper
from alleyes.pictures import Picture
from alleyes.ranges import stretch
from alleyes.ratios import Ratio
from alleyes.rows import Row
from alleyes.seconds import is_new_look, is_one_look
from alleyes.shapes import tile_facts
from alleyes.standing import home_form, stand, way_of
from alleyes.steps import Mark, Step
from tests.linked import factor_of, form_in_world, half_seen, linked_world, true_map
from tests.painting import direction, minus, plus, random_step, times
from tests.support import NO_NAMES, Checks, Odd, total_of, value_of
from tests.test_drawn import BARE
from tests.test_standing import AGAIN, CORNER, EDGES, IMPOSSIBLE, JOINED, ONE, TIES, between

LOOSELY = stand(Book([CORNER, AGAIN], EDGES + TIES[1:]))
OA, OB, OC = between("o", "a"), between("o", "b"), between("o", "c")
SAME = ((1, 0, 0), (0, 1, 0), (0, 0, 1))


def scene_of_heap(standing, name):
    """The depths of the Lies that the standing tells of the heap of a picture."""
    at = [name in heap.names for heap in standing.heaps].index(True)
    return dict(standing.paper.scenes[at].depths)


class LinksTest(unittest.TestCase, Checks):
    def test_example(self):
        self.assertEqual([map_between(JOINED, "two", "one").lines, map_between(JOINED, "one", "two").lines,
                          map_between(LOOSELY, "one", "two").why],
                         [((1, 0, 0), (0, 1, 0), (-1, 0, 1)), ((1, 0, 0), (0, 1, 0), (1, 0, 1)), "few"])
        found = drawn_in(JOINED, Mark.of_point("one.d"), "two")
        self.assertEqual([direction_in(JOINED, OA, "two"), direction_in(JOINED, Step.right_of("two"), "one"), found.word, found.x, found.y],
                         [(1, 0, 1), (1, 0, -1), "drawn", Ratio(3, 2), 1])

    def test_papers(self):
        joined, apart = Joined(lines=[[1, 0, 0], [0, 1, 0], [0, 0, 1]]), Apart(why="few")
        self.assertEqual([joined.word, joined.lines, bool(joined)], ["joined", SAME, True])
        self.assertEqual([apart.word, apart.why, apart.parts, bool(apart)], ["apart", "few", ("few",), False])
        self.assertTrue(isinstance(joined, Paper) and isinstance(apart, Denial))
        self.assertTrue(joined != apart and Apart("few") == apart and Joined(SAME) == joined)

    def test_maps_between(self):
        """The map between is that of own sums; there and back, and by a third picture, it changes nothing."""
        source = random.Random(1)
        for number in range(14):
            names = [("one", "two"), ("two", "one"), ("one", "two", "three"), ("c", "a", "b")][number & 3]
            world, standing = linked_world(source, names, straight=source.random() < 0.3)
            self.assertEqual([heap.names for heap in standing.heaps], [names])
            found = {(one, other): map_between(standing=standing, one=one, other=other).lines for one in names for other in names}
            for (one, other), lines in found.items():
                self.assertIsNotNone(factor_of(lines, true_map(world, one, other)))
                self.assertTrue(all(type(part) is int for line in lines for part in line))
                self.assertEqual([map_back(lines), map_behind(found[other, one], lines)], [found[other, one], SAME])
                for third in names:
                    self.assertEqual(map_behind(found[third, other], found[one, third]), lines)
            for name in names:
                self.assertEqual([found[name, name], found[name, names[0]]], [SAME, standing.heaps[0].maps[name]])

    def test_directions(self):
        source = random.Random(2)
        for _ in range(8):
            world, standing = linked_world(source, ("one", "two", "three"))
            for _ in range(8):
                name = source.choice(list(world.looks))
                step = random_step(source, world, name)
                if way_of(standing, step) is None:
                    for other in world.looks:
                        self.bad(Unsettled, "step", direction_in, standing, step, other)
                    continue
                for other, look in world.looks.items():
                    self.assertEqual(direction_in(standing=standing, step=step, name=other), direction(look.form(world.led(step))))
            for name, look in world.looks.items():
                for side, axis in ((Step.right_of(name), look.axes[0]), (Step.up_of(name), look.axes[1])):
                    for other, there in world.looks.items():
                        self.assertEqual(direction_in(standing, side, other), direction(there.form(axis)))

    def test_forms_of_tied_labels(self):
        """At each scene the form of a tied label in another picture is that of its own label there."""
        source = random.Random(3)
        for number in range(6):
            world, standing = linked_world(source, ("one", "two", "three")) if number & 1 else half_seen(source)
            for one in world.looks:
                for other in world.looks:
                    for point in set(world.seen[one]) & set(world.seen[other]):
                        rows = form_in(standing=standing, value=Mark.of_point(f"{one}.{point}"), name=other)
                        self.assertTrue(type(rows) is tuple and len(rows) == 3 and all(type(row) is Row for row in rows))
                        own = form_of(standing.book.picture_of(other), Mark.of_point(f"{other}.{point}"))
                        depths = scene_of_heap(standing, one)
                        self.assertEqual([total_of(row, depths) for row in rows], [total_of(row, depths) for row in own])

    def test_forms_in_space(self):
        """At the painted depths, in the scale of its map, a mark's form is that of its spot, a step's that of its way."""
        source = random.Random(4)
        for _ in range(8):
            world, standing = half_seen(source)
            maps = standing.heaps[0].maps
            # As the depths of the second picture go by the scale of its map, the painted ones are these so many times.
            scale = factor_of(maps["two"], true_map(world, "two", "one"))
            depths = {**world.depths("one"), **{label: depth / scale for label, depth in world.depths("two").items()}}
            self.assertIn({label: Ratio(depth.numerator, depth.denominator) for label, depth in depths.items()}, standing.heaps[0].cone)
            for _ in range(8):
                name, other = source.choice([("one", "two"), ("two", "one"), ("one", "one"), ("two", "two")])
                step, times_along = random_step(source, world, name), source.randint(-2, 3)
                mark = Mark.of_point(f"{name}.a") + step * times_along if times_along else Mark.of_point(f"{name}.a")
                spot = plus(world.spot(f"{name}.a"), times(world.led(step), times_along))
                share = 1 if other == "one" else 1 / scale
                wanted = times(form_in_world(world.looks[other], spot), share)
                self.assertEqual(tuple(total_of(row, depths) for row in form_in(standing, mark, other)), wanted)
                led = times(world.looks[other].form(world.led(step)), share)
                self.assertEqual(tuple(total_of(row, depths) for row in form_in(standing, step, other)), led)

    def test_own_forms(self):
        """In its own picture a mark, and a step, has its own form."""
        source = random.Random(5)
        world, standing = linked_world(source, ("one", "two"))
        bare = stand(Book([ONE]))
        for here, name in ((standing, "one"), (standing, "two"), (bare, "one")):
            picture = here.book.picture_of(name)
            for value in (Mark.of_point(f"{name}.b"), Mark({f"{name}.a": 3, f"{name}.c": -2}), between("a", "d", name)):
                self.assertEqual(form_in(here, value, name), form_of(picture, value))
        self.assertEqual(form_in(JOINED, between("o", "a", "two"), "one"), home_form(JOINED, between("o", "a", "two")))

    def test_drawn_in(self):
        """A point of one picture is drawn in the other one where it is seen there, tied or not."""
        source = random.Random(6)
        for _ in range(10):
            world, standing = half_seen(source)
            for point in world.seen["one"]:
                mark = Mark.of_point(f"one.{point}")
                found = drawn_in(standing=standing, mark=mark, name="two")
                self.assertEqual(found, drawn_form(standing, "two", form_in(standing, mark, "two")))
                x, y = world.looks["two"].paint(world.spots[point])
                self.assertEqual([found.word, value_of(found.x), value_of(found.y)], ["drawn", x, y])
                self.assertEqual(drawn_in(standing, mark, "one"), drawn(standing, mark))
            there = drawn_in(standing, Mark({"two.a": 2, "two.b": -1}), "one")
            spot = minus(times(world.spots["a"], 2), world.spots["b"])
            if world.looks["one"].depth(spot) > 0:
                self.assertEqual((value_of(there.x), value_of(there.y)), world.looks["one"].paint(spot))
            else:
                self.assertEqual(there.word, "hidden")

    def test_apart(self):
        """Few pairs, steps that wait, pairs that lie in a plane; in the order told."""
        tiles = [*tile_facts("one.o", "one.a", "one.d", "one.b"), *tile_facts("two.o", "two.a", "two.d", "two.b")]
        ties = [Tie(f"one.{letter}", f"two.{letter}") for letter in "abcdeo"]
        a, b, c, d, e, o = ties
        for facts, why in (([], "few"), ([a, b, c], "few"), ([a, b, c, d], "waits"), (ties, "waits"), ([*tiles, a, b, o], "few"),
                           ([*tiles, a, b, d, o], "plane"), ([*tiles, a, b, c, o], "waits"), ([*tiles, *ties], "plane"),
                           ([tiles[0], a, b, d, o], "waits"), ([*EDGES, a, b, c], "few"), ([*EDGES[:3], *ties], "plane"),
                           ([*EDGES[:2], *ties], "waits"), ([*EDGES[:2], EDGES[3], *ties], "plane"),
                           ([EDGES[0], EDGES[3], *ties], "waits"), ([*EDGES, a, b, d, o], "plane")):
            standing = stand(Book([CORNER, AGAIN], facts))
            for one, other in (("one", "two"), ("two", "one")):
                self.assertEqual(map_between(standing, one, other), Apart(why), [str(fact) for fact in facts])
                self.assertEqual(map_between(standing, one, one), Joined(SAME))
        for facts in ([*EDGES, a, b, c, o], [*EDGES, *ties]):
            self.assertEqual(map_between(stand(Book([CORNER, AGAIN], facts)), "one", "two").word, "joined")

    def test_apart_by_other_names(self):
        """The points of the second picture may be named in another order."""
        newer = AGAIN.renamed("two", {"a": "z", "b": "y", "c": "x", "d": "w", "e": "v", "o": "u"})
        tiles = [*tile_facts("one.o", "one.a", "one.d", "one.b"), *tile_facts("two.u", "two.z", "two.w", "two.y")]
        ties = [Tie("one.a", "two.z"), Tie("one.b", "two.y"), Tie("one.d", "two.w"), Tie("two.u", "one.o")]
        for facts, why in ((tiles + ties, "plane"), (tiles[1:] + ties, "waits"), (tiles + ties[1:], "few")):
            standing = stand(Book([CORNER, newer], facts))
            self.assertEqual([map_between(standing, "one", "two").why, map_between(standing, "two", "one").why], [why, why])

    def test_third_picture(self):
        """Two pictures are of one heap by a third one, whatever ties they have; of others the reason is theirs."""
        source = random.Random(7)
        world, standing = linked_world(source, ("one", "two", "three"))
        # Ties go from one to two, and from two to three; so by chains from one to three.
        facts = [fact for fact in standing.book.facts if not (fact.word == "tie" and fact.one == "two.a")]
        book = Book(standing.book.pictures, facts)
        self.assertEqual(len(book.pairs("one", "three")), 7)
        self.assertEqual(map_between(stand(book), "one", "three").word, "joined")
        few = [fact for fact in facts if not (fact.word == "tie" and fact.one in ("two.b", "two.c", "two.d", "two.e"))]
        apart = stand(Book(standing.book.pictures, few))
        self.assertEqual([map_between(apart, "one", "three").why, map_between(apart, "two", "three").why,
                          map_between(apart, "one", "two").word],
                         ["few", "few", "joined"])

    def test_depths_of_tied_points(self):
        """Tied points are as deep in both pictures as they are in space, by the scale of the second one's map."""
        source = random.Random(8)
        for _ in range(6):
            world, standing = linked_world(source, ("one", "two"))
            heap = standing.heaps[0]
            scale = factor_of(heap.maps["two"], true_map(world, "two", "one"))
            for point in world.spots:
                own, other = world.depths("one")[f"one.{point}"], world.depths("two")[f"two.{point}"]
                found = stretch(heap.cone, Row({f"two.{point}": 1}), Row({f"one.{point}": 1}))
                self.assertEqual([found.word, value_of(found.number)], ["even", other / scale / own])

    def test_rings(self):
        """Points tied in rings of three pictures; one that is drawn off its ray makes the book impossible."""
        source, words = random.Random(9), {}
        for _ in range(4):
            world, standing = linked_world(source, ("one", "two", "three"))
            ring = [Tie(f"three.{point}", f"one.{point}") for point in world.spots]
            facts = [*standing.book.facts, *ring]
            source.shuffle(facts)
            book = Book(standing.book.pictures, facts)
            ringed = stand(book)
            self.assertTrue(ringed.is_possible)
            for one in world.looks:
                for other in world.looks:
                    self.assertEqual(map_between(ringed, one, other), map_between(standing, one, other))
            # The last corner is no more told to be one of a box, but its ties put it on its ray.
            free = [fact for fact in facts if fact.word == "tie" or not any("three.h" in str(step) for step in fact.steps)]
            self.assertTrue(stand(Book(book.pictures, free)).is_possible)
            three = book.picture_of("three")
            x, y = three.place_of("three.h")
            places = {point: three.place_of(f"three.{point}") for point in three.names}
            off = Picture("three", {**places, "h": (x + Ratio(1, 97), y)})
            moved = [off if picture.name == "three" else picture for picture in book.pictures]
            words[stand(Book(moved, free)).paper.word] = True
            untied = [fact for fact in free if "three.h" not in str(fact)]
            self.assertTrue(stand(Book(moved, untied)).is_possible)
        self.assertEqual(list(words), ["noscene"])

    def test_four_pairs_that_bar(self):
        """A mirrored picture is apart no more, but impossible."""
        source = random.Random(10)
        world, standing = linked_world(source, ("one", "two"))
        one, two = standing.book.pictures
        barred = stand(Book([one, two.mirrored()], standing.book.facts))
        self.assertEqual([barred.paper.word, barred.paper.ties], ["neverone", tuple((f"one.{point}", f"two.{point}") for point in "abce")])
        self.raised(Impossible, {"word": "neverone"}, map_between, barred, "one", "two")

    def test_copies(self):
        """A picture moved, enlarged, turned by a quarter: the map between carries its sheet."""
        copies = {"moved": AGAIN.moved(3, Ratio(-1, 2)), "enlarged": AGAIN.enlarged(3), "turned": AGAIN.turned()}
        for word, copy in copies.items():
            again = stand(Book([AGAIN, copy.renamed("six")], [*EDGES[2:], *[six_named(fact) for fact in EDGES[2:]],
                    *[Tie(f"two.{point}", f"six.{point}") for point in "abco"]]))
            wanted = {"moved": ((2, 0, 6), (0, 2, -1), (0, 0, 2)), "enlarged": ((3, 0, 0), (0, 3, 0), (0, 0, 1)),
                      "turned": ((0, -1, 0), (1, 0, 0), (0, 0, 1))}[word]
            self.assertEqual(map_between(again, "two", "six").lines, wanted)
            self.assertEqual([is_one_look(again, "two", "six"), is_one_look(again, "six", "two"), is_new_look(again, "six")],
                             [True, True, False])

    def test_order_of_errors(self):
        lost, gone = Step.between("one.x", "one.w"), Mark({"one.z": 2, "one.y": -1})
        away, mark = Step.right_of("six"), Mark.of_point("one.a")
        for standing in (JOINED, LOOSELY, *IMPOSSIBLE.values()):
            for value in (*NO_NAMES, "six", "one.a"):
                self.raised(NoPicture, {"name": value}, map_between, standing, value, value)
                self.raised(NoPicture, {"name": value}, map_between, standing, "one", value)
                self.raised(NoPicture, {"name": value}, map_between, standing, value, "one")
                self.raised(NoPicture, {"name": value}, direction_in, standing, lost, value)
                self.raised(NoPicture, {"name": value}, form_in, standing, gone, value)
                self.raised(NoPicture, {"name": value}, drawn_in, standing, gone, value)
            for value in (None, "right one", mark, Odd()):
                self.bad(BadStep, "step", direction_in, standing, value, None)
            for value in (None, "one.a", Step.up_of("one"), away, Row({}), Odd()):
                self.bad(BadStep, "value", form_in, standing, value, None)
            for value in (None, "one.a", OA, Odd()):
                self.bad(BadMark, "mark", drawn_in, standing, value, None)
            self.raised(NoLabel, {"name": "one.w"}, direction_in, standing, lost, "one")
            self.raised(NoPicture, {"name": "six"}, direction_in, standing, away, "one")
            self.raised(NoLabel, {"name": "one.w"}, form_in, standing, lost, "one")
            self.raised(NoLabel, {"name": "one.y"}, form_in, standing, gone, "one")
            self.raised(NoLabel, {"name": "one.y"}, drawn_in, standing, gone, "one")
        for word, standing in IMPOSSIBLE.items():
            for call, value in ((direction_in, between("a", "b")), (form_in, between("a", "b")), (form_in, mark), (drawn_in, mark)):
                for name in standing.book.names:
                    self.raised(Impossible, {"word": word}, call, standing, value, name)
            self.raised(Impossible, {"word": word}, map_between, standing, "one", "one")
        for call, value in ((direction_in, between("a", "b")), (direction_in, Step.up_of("one")), (form_in, between("a", "b")),
                            (form_in, mark), (drawn_in, mark)):
            self.raised(NotJoined, {"one": "one", "other": "two"}, call, LOOSELY, value, "two")
        self.raised(NotJoined, {"one": "two", "other": "one"}, drawn_in, LOOSELY, Mark.of_point("two.a"), "one")
        self.bad(Unsettled, "step", direction_in, stand(Book([CORNER])), OA, "one")
        for value in (None, LOOSELY.book, "one", Odd()):
            for call in (map_between, direction_in, form_in, drawn_in):
                self.bad(BadStanding, "standing", call, value, None, None)

    def test_unsettled_forms(self):
        """Forms of steps need no settled step; what lies along what is not asked."""
        bare = stand(Book([ONE], [Along(between("a", "b"), between("d", "c"))]))
        self.assertEqual(form_in(bare, between("a", "c"), "one"), form_of(ONE, between("a", "c")))
        self.assertEqual(drawn_in(BARE, Mark({"one.a": 2, "one.b": -1}), "one").word, "sometimes")
        self.assertEqual(map_between(stand(Book([Picture("one", {"a": (0, 0)})])), "one", "one"), Joined(SAME))


def six_named(fact):
    """A fact of the picture two told of the picture six."""
    return Fact.read(str(fact).replace("two", "six"))


if __name__ == "__main__":
    unittest.main()
