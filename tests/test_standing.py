"""Standings: rounds, heaps, maps, rows and their sources, papers; beside scenes that are painted by sums of their own."""

import random
import time
import unittest
from fractions import Fraction

from alleyes.books import Book
from alleyes.bowl import NoEye, Sees
from alleyes.check_standing import shows_paper, shows_way
from alleyes.cones import Cone, Lies, NoScene, some_scene
from alleyes.errors import BadBook, BadMark, BadStanding, BadStep, Impossible, NoLabel, NoPicture
from alleyes.eyes import Eye
from alleyes.facts import Along, Far, Foot, InPlane, Lengths, Null, SameWay, Tie, Upright
from alleyes.flats import EyeRow, Flat, product_row
from alleyes.forms import form_of
from alleyes.maps import content_of
from alleyes.papers import Denial, Paper
from alleyes.pictures import Picture
from alleyes.ratios import Ratio
from alleyes.rows import Row
from alleyes.shapes import tile_facts
from alleyes.sheet import cross as cross_of
from alleyes.sheet import meet_of
from alleyes.spans import reduced, rest_of
from alleyes.standing import Heap, NeverOne, Possible, Standing, home_form, place_in, stand, together, way_of
from alleyes.steps import Mark, Step
from tests.linked import factor_of, true_map
from tests.painting import LETTERS, Look, World, box_nulls, cube_world, direction, dot, random_step, random_world
from tests.painting import ratio_of, true_facts, true_ties
from tests.right_standing import right_paper
from tests.right_words import reading
from tests.support import NO_NAMES, Checks, Odd, value_of

ONE = Picture("one", {"a": (0, 0), "b": (6, 0), "c": (4, 2), "d": (2, 2)})
AB, AD, DC = Step.between("one.a", "one.b"), Step.between("one.a", "one.d"), Step.between("one.d", "one.c")
TILE = Step({"one.a": 1, "one.b": -1, "one.c": 1, "one.d": -1})
RIGHT, UP = Step.right_of("one"), Step.up_of("one")
HERE = stand(Book([ONE], [Upright(AB, AD), Null(TILE), Lengths(AB, RIGHT)]))
CORNER = Picture.read("one : a 2 1 / b 1 2 / c 1/2 1/2 / d 2 2 / e 1 1/2 / o 1 1")
AGAIN = Picture.read("two : a 3/2 1/2 / b 2 2 / c 1 1/2 / d 3/2 1 / e 1 1/3 / o 2 1")
EDGES = (*tile_facts("one.o", "one.a", "one.d", "one.b"), *tile_facts("one.o", "one.a", "one.e", "one.c"),
         *tile_facts("two.o", "two.a", "two.d", "two.b"), *tile_facts("two.o", "two.a", "two.e", "two.c"))
TIES = (Tie("one.a", "two.a"), Tie("one.b", "two.b"), Tie("one.c", "two.c"), Tie("one.o", "two.o"))
JOINED = stand(Book([CORNER, AGAIN], (*EDGES, *TIES)))
IMPOSSIBLE = {"noscene": stand(Book([ONE], [Null(TILE), SameWay(AB, Step.between("one.c", "one.d"))])),
              "neverone": stand(Book([CORNER, AGAIN.mirrored()], (*EDGES, *TIES))),
              "noeye": stand(Book([ONE], [Null(TILE), Foot("one", 3, 3), Far("one", 18)]))}
SIX = Look((3, 5, -4), ((1, 0, 0), (0, 1, 0), (0, 0, 1)), (0, 0), 1)


def between(one, other, name="one"):
    return Step.between(f"{name}.{one}", f"{name}.{other}")


def box_world(names=("one",), looks=None):
    """The corners of the cube of side 1, named by their bits; each picture has a look of its own."""
    spots = {LETTERS[number]: tuple(Fraction(number >> bit & 1) for bit in range(3)) for number in range(8)}
    return World(spots, dict(zip(names, looks or [SIX])), {name: list(spots) for name in names})


class StandingTest(unittest.TestCase, Checks):
    def test_example(self):
        self.assertEqual([HERE.used, HERE.waiting, HERE.rounds, HERE.heaps[0].flat.lines[0] == EyeRow(-1, 0, 0, 3)],
                         [(0, 1), (2,), 2, True])
        self.assertEqual([way_of(HERE, AB).direction, str(way_of(HERE, AD).factor), way_of(HERE, AD).direction, together(HERE, AB, AD)],
                         [(1, 0, 0), "one.d 2/3", (3, 3, 1), 3])
        # The step from a to b has the factor depth of b by 1/6, which is 6 one.b, and its rest is 2 one.d.
        self.assertEqual(str(way_of(HERE, AB).factor), "one.d 2")

    def test_classes(self):
        self.assertEqual([type(HERE), type(HERE.heaps[0]), type(HERE.paper)], [Standing, Heap, Possible])
        self.assertEqual([HERE.is_possible, HERE.barred, HERE.book.facts[2]], [True, (), Lengths(AB, RIGHT)])
        heap = HERE.heaps[0]
        self.assertEqual([heap.names, heap.home, heap.maps], [("one",), "one", {"one": ((1, 0, 0), (0, 1, 0), (0, 0, 1))}])
        self.assertEqual([type(heap.cone), type(heap.flat), heap.cone.labels], [Cone, Flat, ONE.labels])
        self.assertEqual([heap.sources, heap.above_sources, heap.eye_sources], [((1, 0), (1, 1), (1, 2)), (), ((0, 0),)])
        paper = Possible(scenes=[Lies({"one.a": 1})], eyes=[Sees(1, 2, 3)])
        self.assertEqual([paper.word, paper.scenes, paper.eyes, bool(paper)], ["possible", (Lies({"one.a": 1}),), (Sees(1, 2, 3),), True])
        never = NeverOne(ties=[["one.a", "two.a"]], one=1, other=Ratio(-2), ways=[])
        self.assertEqual([never.word, never.ties, never.one, never.other, never.ways, bool(never)],
                         ["neverone", (("one.a", "two.a"),), 1, -2, (), False])
        self.assertTrue(isinstance(paper, Paper) and isinstance(never, Denial))

    def test_rounds(self):
        """What waits is used in the round behind the one that settles it; rows stand by rounds, in these by numbers."""
        world = box_world()
        facts = [Lengths(between("a", "c"), UP), InPlane(between("a", "f"), between("a", "b"), between("a", "e")),
                 Upright(between("a", "b"), between("a", "e")), Null(Step({"one.a": 1, "one.b": -1, "one.e": -1, "one.f": 1})),
                 Along(Step({"one.h": 2, "one.g": -2}), Step({"one.d": 2, "one.c": -2})), Foot("one", 0, 0),
                 Along(Step({"one.f": 2, "one.e": -2}), RIGHT)]
        book = Book(world.pictures(), facts)
        standing = stand(book)
        self.assertEqual([standing.used, standing.waiting, standing.rounds], [(1, 2, 3, 5, 6), (0, 4), 2])
        heap = standing.heaps[0]
        self.assertEqual(heap.sources, ((3, 0), (3, 1), (3, 2), (6, 0), (6, 1), (6, 2), (1, 0)))
        self.assertEqual(heap.eye_sources, ((5, 0), (5, 1), (2, 0)))
        self.assertEqual([len(heap.cone.zeros), len(heap.flat.lines)], [7, 3])
        self.assertEqual(stand(Book(world.pictures(), [])).rounds, 0)
        self.assertEqual(stand(Book(world.pictures(), [Upright(between("a", "b"), UP)])).rounds, 0)

    def test_same_way(self):
        """A same way that a settled step turns: its above row comes in the round behind, as it stands."""
        ab = between("a", "b")
        book = Book(box_world().pictures(), [SameWay(RIGHT, ab), SameWay(ab, RIGHT), Along(UP, between("a", "c"))])
        standing = stand(book)
        heap = standing.heaps[0]
        self.assertEqual([standing.rounds, standing.used, heap.above_sources], [2, (0, 1, 2), ((0, 3), (1, 3))])
        form = form_of(book.pictures[0], ab)
        self.assertEqual(heap.cone.aboves, (form[0], form[0]))
        self.assertEqual(heap.cone.zeros[:3], (Row({}), form[2], -form[1]))
        self.assertEqual(heap.sources, tuple((number, at) for number in range(3) for at in range(3)))
        up_book = Book(box_world().pictures(), [SameWay(UP, between("a", "c")), Null(Step({"one.b": 1, "one.d": -1, "one.a": -1, "one.c": 1}))])
        heap = stand(up_book).heaps[0]
        self.assertEqual(heap.cone.aboves, (form_of(book.pictures[0], between("a", "c"))[1],))

    def test_same_way_behind_a_meet(self):
        """Two plain steps that meet get three rows each; in the round behind, the direction of one tells the above row."""
        ae, bf = between("a", "e"), between("b", "f")
        picture = box_world().pictures()[0]
        standing = stand(Book([picture], [SameWay(bf, ae)]))
        heap = standing.heaps[0]
        self.assertEqual([standing.rounds, heap.sources, heap.above_sources], [2, tuple((0, at) for at in range(6)), ((0, 3),)])
        meet, form, other = meet_of(picture, bf, ae), form_of(picture, bf), form_of(picture, ae)
        rows = [*self.crossed(form, meet), *self.crossed(other, meet)]
        self.assertEqual(list(heap.cone.zeros), rows)
        way = way_of(standing, bf).direction
        at = [number != 0 for number in way].index(True)
        self.assertEqual(heap.cone.aboves, (other[at] * Ratio(1, way[at]),))
        self.assertEqual(way_of(standing, ae).direction, way)
        along = stand(Book([picture], [Along(bf, ae)]))
        self.assertEqual([along.rounds, along.heaps[0].cone.zeros, along.heaps[0].cone.aboves], [1, heap.cone.zeros, ()])

    def test_a_picture_that_joins_later(self):
        """Rows that a heap has when it joins come anew in the new home forms, above rows and lengths, too."""
        source, seen = random.Random(21), 0
        while seen < 5:
            world = cube_world(source, ("one", "two", "zwo"))
            sides = [dot(world.led(between("a", end)), world.led(between("a", end))) for end in "bce"]
            facts = [fact for name in world.looks for fact in box_nulls(world, name)]
            facts += [SameWay(between("a", "b", "zwo"), between("c", "d", "zwo")),
                      SameWay(between("a", "c", "zwo"), Step({"zwo.b": -2, "zwo.d": 2})),
                      Lengths(between("a", "b", "zwo"), between("a", "c", "zwo"), ratio_of(sides[0]), ratio_of(sides[1])),
                      Lengths(between("a", "e", "zwo"), between("a", "c", "zwo"), ratio_of(sides[2]), ratio_of(sides[1])),
                      Upright(between("a", "b", "zwo"), between("a", "e", "zwo")), Along(between("a", "e", "zwo"), between("d", "h", "zwo")),
                      InPlane(between("a", "d", "zwo"), between("a", "b", "zwo"), between("a", "c", "zwo"))]
            facts += [Foot("zwo", *[ratio_of(number) for number in world.looks["zwo"].eye()[:2]]), Far("zwo", ratio_of(world.looks["zwo"].eye()[2]))]
            standing = self.check_painted(world, [*facts, *true_ties(world)])
            heap = standing.heaps[0]
            self.assertEqual([heap.names, standing.rounds, heap.above_sources], [("one", "two", "zwo"), 3, ((12, 3), (13, 3))])
            contents = [content_of(form) for form in zip(*heap.maps["zwo"])]
            seen += len(set(contents)) > 1

    def test_pairs_whose_later_heap_comes_first(self):
        """Of two pictures that join, the first one may be of the heap with the later home."""
        source = random.Random(3)
        world = cube_world(source, ("one", "two", "zwo"))
        nulls = [fact for name in world.looks for fact in box_nulls(world, name)]
        ties = [Tie(f"one.{letter}", f"zwo.{letter}") for letter in "abce"] + [Tie(f"zwo.{letter}", f"two.{letter}") for letter in "dfgh"]
        standing = self.check_painted(world, [*nulls, *ties])
        self.assertEqual([[heap.names for heap in standing.heaps], standing.rounds, standing.waiting], [[("one", "two", "zwo")], 3, ()])
        one, two, zwo = world.pictures()
        bars = stand(Book([one, two.mirrored(), zwo], [*nulls, *ties]))
        self.assertEqual([bars.paper.word, bars.rounds, [heap.names for heap in bars.barred]], ["neverone", 2, [("one", "zwo"), ("two",)]])
        self.assertEqual(bars.paper.ties, tuple((f"two.{letter}", f"zwo.{letter}") for letter in "dfgh"))
        self.assertTrue(right_paper(bars, bars.paper) and shows_paper(bars, bars.paper))

    def test_what_never_fits(self):
        """Steps of two pictures do not meet, nor those that are not plain; ways that are alike tell no plane."""
        world = box_world(("one", "two"), [SIX, Look((-1, 2, -5), SIX.axes, (1, 0), 2)])
        world.spots.update({"p": (3, 1, 1), "q": (4, 1, 1)})
        world.seen = {name: [*letters, "p", "q"] for name, letters in world.seen.items()}
        facts = [*box_nulls(world, "one"), *box_nulls(world, "two"), *true_ties(world)[:8], Along(between("p", "q"), between("p", "q", "two")),
                 Along(between("p", "q"), Step({"one.p": -2, "one.q": 1, "one.a": 1})), Along(Step({"one.p": -2, "one.q": 1, "one.a": 1}), between("p", "q")),
                 InPlane(between("p", "a"), between("a", "b"), between("d", "c")), InPlane(between("p", "a"), RIGHT, RIGHT),
                 SameWay(between("p", "q", "two"), between("p", "q"))]
        standing = stand(Book(world.pictures(), facts))
        self.assertEqual([standing.paper.word, len(standing.heaps), standing.waiting], ["possible", 1, tuple(range(16, 22))])

    def test_along_on_one_line(self):
        """Plain steps on one line, or steps that are not plain, wait until one of them is settled."""
        picture = Picture("one", {"a": (0, 0), "b": (1, 0), "c": (3, 0), "d": (0, 1)})
        ab, bc = between("a", "b"), between("b", "c")
        self.assertEqual(stand(Book([picture], [Along(ab, bc)])).waiting, (0,))
        standing = stand(Book([picture], [Along(ab, bc), SameWay(bc, RIGHT)]))
        self.assertEqual([standing.used, standing.rounds, standing.heaps[0].sources[3:]], [(0, 1), 2, ((0, 0), (0, 1), (0, 2))])
        self.assertEqual(stand(Book([picture], [Along(Step({"one.a": -2, "one.b": 2}), between("a", "d"))])).waiting, (0,))

    def crossed(self, form, direction_told):
        d1, d2, d3 = form
        v1, v2, v3 = direction_told
        return [d2 * v3 - d3 * v2, d3 * v1 - d1 * v3, d1 * v2 - d2 * v1]

    def test_eyes(self):
        """The eye rows of each kind of fact of eyes."""
        facts = [Null(TILE), Foot("one", 3, Ratio(1, 2)), Far("one", 27), Lengths(RIGHT, UP, 3, 3), Lengths(AB, AD, 2, 3),
                 Upright(RIGHT, AD), Lengths(AB, AB, 1, 1), Lengths(RIGHT, AB)]
        standing = stand(Book([ONE], facts[:1] + facts[2:]))
        lines = stand(Book([ONE], facts[:2])).heaps[0].flat.lines
        self.assertEqual(lines, (EyeRow(-1, 0, 0, 3), EyeRow(0, -1, 0, Ratio(1, 2))))
        self.assertEqual(standing.waiting, (6,))
        v, w = (1, 0, 0), (3, 3, 1)
        wanted = {1: EyeRow(0, 0, 1, -27), 2: EyeRow(0, 0, 0, 0), 3: product_row(v, v) * 27 - product_row(w, w) * 2,
                  4: EyeRow(-1, 0, 0, 3), 5: EyeRow(0, 0, 0, 0)}
        heap = standing.barred[0] if standing.barred else standing.heaps[0]
        self.assertEqual(sorted(heap.eye_sources), [(number, 0) for number in wanted])
        for (number, _), line in zip(heap.eye_sources, heap.flat.lines):
            self.assertEqual(line, wanted[number])

    def test_joined(self):
        heap = JOINED.heaps[0]
        self.assertEqual([JOINED.rounds, JOINED.used, JOINED.waiting, len(JOINED.heaps)], [2, tuple(range(8)), (), 1])
        self.assertEqual([heap.names, heap.home, heap.maps["two"]], [("one", "two"), "one", ((1, 0, 0), (0, 1, 0), (-1, 0, 1))])
        tied = [(f"one.{letter}", f"two.{letter}", at) for letter in "bco" for at in range(3)]
        self.assertEqual(heap.sources, (*[(number, at) for number in range(4) for at in range(3)], *tied))
        self.assertEqual([heap.eye_sources, heap.flat.lines], [(("two", 0), ("two", 1)), (EyeRow(0, 1, 0, 0), EyeRow(2, 0, 1, 0))])
        loosely = stand(Book([CORNER, AGAIN], (*EDGES, *TIES[1:])))
        self.assertEqual([loosely.waiting, loosely.rounds, [heap.home for heap in loosely.heaps]], [(4, 5, 6), 1, ["one", "two"]])
        self.assertEqual([way_of(JOINED, Step.right_of("two")).direction, home_form(JOINED, Step.right_of("two"))], [(1, 0, -1)] * 2)
        depths = {"one.a": 1, "one.b": 1, "one.c": 2, "one.d": 1, "one.e": 2, "one.o": 1, "two.a": 2, "two.b": 1, "two.c": 2,
                  "two.d": 2, "two.e": 3, "two.o": 1}
        self.assertIn(depths, heap.cone)

    def test_home_is_the_first_of_the_book(self):
        swapped = stand(Book([AGAIN, CORNER], (*EDGES, *TIES)))
        heap = swapped.heaps[0]
        self.assertEqual([heap.home, heap.names, list(heap.maps), heap.maps["one"]],
                         ["two", ("two", "one"), ["one", "two"], ((1, 0, 0), (0, 1, 0), (1, 0, 1))])
        self.assertEqual(heap.eye_sources, (("one", 0), ("one", 1)))
        self.assertEqual([source for source in heap.sources if len(source) == 3][:3], [("one.b", "two.b", at) for at in range(3)])

    def test_places(self):
        places = {letter: place_in(JOINED, Mark.of_point(f"one.{letter}")) for letter in "abcdeo"}
        for letter in "abcdeo":
            self.assertEqual(places[letter], form_of(CORNER, Mark.of_point(f"one.{letter}")))
            if letter in "abco":
                there = place_in(JOINED, Mark.of_point(f"two.{letter}"))
                self.assertTrue(all(rest_of(JOINED.heaps[0].cone.zeros, one - other).is_nothing
                                    for one, other in zip(places[letter], there)))
        self.assertEqual(place_in(JOINED, Mark.of_point("two.a")), places["a"])
        mark = Mark({"two.d": 2, "two.a": -1})
        step = home_form(JOINED, Step({"two.d": 2, "two.a": -2}))
        self.assertEqual(place_in(JOINED, mark), tuple(row + other for row, other in zip(places["a"], step)))
        between_places = [home_form(JOINED, Step.between("two.a", "two.d"))[at] for at in range(3)]
        self.assertEqual(between_places, [one - other for one, other in zip(place_in(JOINED, Mark.of_point("two.d")), places["a"])])

    def test_impossible(self):
        for word, standing in IMPOSSIBLE.items():
            self.assertEqual([standing.is_possible, standing.paper.word, bool(standing.paper)], [False, word, False])
            self.assertEqual([standing.heaps, standing.used, standing.waiting], [(), (), ()])
            self.assertTrue(shows_paper(standing, standing.paper) and right_paper(standing, standing.paper))
        dark, bars, blind = IMPOSSIBLE.values()
        self.assertEqual([type(dark.paper), type(bars.paper), type(blind.paper)], [NoScene, NeverOne, NoEye])
        self.assertEqual([len(standing.barred) for standing in IMPOSSIBLE.values()], [1, 2, 1])
        self.assertEqual([standing.rounds for standing in IMPOSSIBLE.values()], [2, 1, 1])
        self.assertEqual([heap.home for heap in bars.barred], ["one", "two"])
        self.assertEqual(bars.paper.ties, tuple((f"one.{letter}", f"two.{letter}") for letter in "abco"))
        self.assertEqual([way.direction for way in bars.paper.ways[:3]], [way_of(JOINED, between("a", letter)).direction for letter in "bco"])
        self.assertEqual(dark.barred[0].above_sources, ((1, 3),))
        self.assertEqual(blind.barred[0].eye_sources, ((1, 0), (1, 1), (2, 0)))

    def test_no_scene_behind_a_join(self):
        """The joined heap as it stood then, with the rows of its ties, is the barred one."""
        world = box_world(("one", "two"), [SIX, Look((-1, 2, -5), SIX.axes, (1, 0), 2)])
        pictures = world.pictures()
        points = [{label[-1]: picture.place_of(label) for label in picture.labels} for picture in pictures]
        x, y = points[1]["h"]
        pictures = [Picture("one", {**points[0], "x": (5, 5)}), Picture("two", {**points[1], "x": (x + Ratio(1, 97), y)})]
        facts = [*box_nulls(world, "one"), *box_nulls(world, "two"), *true_ties(world), Tie("one.x", "two.x")]
        standing = stand(Book(pictures, facts))
        self.assertEqual([standing.paper.word, standing.barred[0].names, standing.rounds], ["noscene", ("one", "two"), 1])
        self.assertTrue(right_paper(standing, standing.paper))

    def test_order_of_impossible(self):
        """By depths ahead of ties that bar, these ahead of eyes; of several heaps the first one."""
        nulls = [Null(Step({f"{name}.a": 1, f"{name}.b": -1, f"{name}.c": 1, f"{name}.d": -1})) for name in ("one", "two")]
        turned = {name: SameWay(between("a", "b", name), between("c", "d", name)) for name in ("one", "two")}
        blind = [Far("one", -1), Far("two", 0)]
        two = Picture("two", {"a": (0, 0), "b": (6, 0), "c": (4, 2), "d": (2, 2)})
        for facts, word, home, rounds in (([*nulls, *blind, turned["two"]], "noscene", "two", 2),
                                          ([*nulls, *blind, turned["two"], turned["one"]], "noscene", "one", 2),
                                          ([*nulls, *blind[::-1]], "noeye", "one", 1), ([*nulls, blind[1]], "noeye", "two", 1),
                                          ([blind[1], blind[0]], "noeye", "one", 1)):
            standing = stand(Book([ONE, two], facts))
            self.assertEqual([standing.paper.word, standing.barred[0].home, standing.rounds], [word, home, rounds])
        swapped = stand(Book([two, ONE], [*nulls, *turned.values()]))
        self.assertEqual([swapped.paper.word, swapped.barred[0].home], ["noscene", "two"])
        facts = [*EDGES, *TIES, Far("one", -1)]
        self.assertEqual(stand(Book([CORNER, AGAIN.mirrored()], facts)).paper.word, "neverone")
        self.assertEqual(stand(Book([CORNER, AGAIN], facts)).paper.word, "noeye")
        dark = SameWay(between("o", "a"), between("d", "b"))
        self.assertEqual(stand(Book([CORNER, AGAIN.mirrored()], [*EDGES, *TIES, Null(between("a", "b"))])).paper.word, "noscene")
        later = stand(Book([CORNER, AGAIN.mirrored()], [*EDGES, *TIES, dark]))
        self.assertEqual([later.paper.word, later.rounds], ["neverone", 1])

    def test_flat_fours(self):
        """Four pairs in one plane in both pictures do not fit; in one of them alone they bar."""
        world = box_world(("one", "two"), [SIX, Look((-1, 2, -5), SIX.axes, (1, 0), 2)])
        nulls = [*box_nulls(world, "one"), *box_nulls(world, "two")]
        ties = {tie.one[-1]: tie for tie in true_ties(world)}
        flat = stand(Book(world.pictures(), [*nulls, *[ties[letter] for letter in "abcd"]]))
        self.assertEqual([flat.paper.word, len(flat.heaps), flat.waiting], ["possible", 2, (8, 9, 10, 11)])
        crossed = [*[ties[letter] for letter in "abc"], Tie("one.d", "two.e")]
        bars = stand(Book(world.pictures(), [*nulls, *crossed]))
        self.assertEqual([bars.paper.word, [bool(value_of(number)) for number in (bars.paper.one, bars.paper.other)]],
                         ["neverone", [False, True]])
        self.assertEqual(bars.paper.ties, (("one.a", "two.a"), ("one.b", "two.b"), ("one.c", "two.c"), ("one.d", "two.e")))
        self.assertTrue(right_paper(bars, bars.paper))
        first = stand(Book(world.pictures(), [*nulls, *[ties[letter] for letter in "abcdeh"]]))
        self.assertEqual([len(first.heaps), first.waiting], [1, ()])

    def test_steps_of_two_pictures(self):
        """A fact of steps of two pictures waits until these join; then it is used in the round behind."""
        world = box_world(("one", "two"), [SIX, Look((-1, 2, -5), SIX.axes, (1, 0), 2)])
        nulls = [*box_nulls(world, "one"), *box_nulls(world, "two")]
        ties = true_ties(world)[:5]
        mixed = [SameWay(between("a", "b"), between("c", "d", "two")), Upright(between("a", "b"), between("a", "e", "two")),
                 Lengths(between("a", "b"), between("a", "c", "two")), Along(between("a", "b", "two"), RIGHT),
                 InPlane(between("a", "d"), between("a", "b", "two"), between("a", "c"))]
        before = stand(Book(world.pictures(), [*mixed, *nulls, *ties[:3]]))
        self.assertEqual([before.waiting, before.rounds], [(0, 1, 2, 3, 4, 13, 14, 15), 1])
        behind = stand(Book(world.pictures(), [*mixed, *nulls, *ties]))
        heap = behind.heaps[0]
        self.assertEqual([behind.waiting, behind.rounds, heap.above_sources], [(), 3, ((0, 3),)])
        told = [source for source in heap.sources if len(source) == 2]
        self.assertEqual(told[24:], [(0, 0), (0, 1), (0, 2), (3, 0), (3, 1), (3, 2), (4, 0)])
        self.assertEqual(heap.eye_sources, ((1, 0), (2, 0), ("two", 0), ("two", 1)))
        self.assertEqual(together(behind, between("a", "b"), between("a", "c", "two")) is None, False)
        self.assertIsNone(together(behind, RIGHT, Step.right_of("two")))

    def test_painted_alone(self):
        source, seen = random.Random(4), {}
        for _ in range(60):
            world = random_world(source, source.randint(4, 7), straight=source.random() < 0.5)
            facts = true_facts(source, world, source.randint(1, 8))
            standing = self.check_painted(world, facts)
            seen[len(standing.waiting) > 0] = True
        self.assertEqual(len(seen), 2)

    def test_painted_boxes(self):
        source, seen = random.Random(5), {}
        for _ in range(26):
            names = source.choice([("one",), ("one", "two"), ("two", "one"), ("null", "one", "tie")])
            world = cube_world(source, names, straight=source.random() < 0.5)
            facts = true_facts(source, world, source.randint(1, 7))
            for name in names:
                facts.extend(fact for fact in box_nulls(world, name) if source.random() < 0.9)
            ties = true_ties(world)
            facts.extend(source.sample(ties, min(len(ties), source.randint(4, 9) * (len(names) - 1))))
            source.shuffle(facts)
            standing = self.check_painted(world, facts)
            seen[len(names), len(standing.heaps)] = True
            self.check_other_orders(source, standing)
        self.assertTrue(seen[2, 1] and seen[3, 1])

    def check_painted(self, world, facts):
        """True facts leave a book possible; the painted depths and eyes fit, and settled steps go as they do there."""
        standing = stand(Book(world.pictures(), facts))
        self.assertTrue(standing.is_possible, str(standing.book))
        self.assertEqual(sorted([*standing.used, *standing.waiting]), list(range(len(facts))))
        self.assertTrue(shows_paper(standing, standing.paper) and right_paper(standing, standing.paper))
        self.assertEqual([heap.home for heap in standing.heaps], [heap.names[0] for heap in standing.heaps])
        self.check_waiting(standing)
        for heap in standing.heaps:
            depths = self.scaled_depths(world, heap)
            self.assertIn(depths, heap.cone)
            self.assertIn(Eye(*[ratio_of(number) for number in world.looks[heap.home].eye()]), heap.flat)
            self.check_sources(standing, heap)
            for name in heap.names:
                self.check_ways(world, standing, heap, name, depths)
        return standing

    def check_waiting(self, standing):
        """What waits does not fit what stands, what is used does; a same way may have come by a meet."""
        for number, fact in enumerate(standing.book.facts):
            if isinstance(fact, (Foot, Far)):
                fits = True
            elif isinstance(fact, Tie):
                fits = standing.heap_of(fact.one[:-2]) is standing.heap_of(fact.other[:-2])
            else:
                fits = reading(standing, Along(*fact.steps) if isinstance(fact, SameWay) else fact)[0] != "waits"
            self.assertEqual(fits, number in standing.used, str(fact))

    def scaled_depths(self, world, heap):
        """The painted depths, in the scale that the map of each picture tells."""
        depths = {}
        for name in heap.names:
            times = factor_of(heap.maps[name], true_map(world, name, heap.home))
            self.assertIsNotNone(times)
            depths.update({label: ratio_of(depth / times) for label, depth in world.depths(name).items()})
        return depths

    def check_ways(self, world, standing, heap, name, depths):
        source, ways = random.Random(1), []
        for _ in range(6):
            step = random_step(source, world, name)
            way = way_of(standing, step)
            self.assertTrue(way is None or shows_way(standing, step, way))
            if way is not None:
                true = world.looks[heap.home].form(world.led(step))
                self.assertEqual(way.direction, direction(true))
                self.assertEqual(rest_of(heap.cone.zeros, way.factor), way.factor)
                factor = value_of(way.factor.at(depths))
                self.assertEqual([factor * number for number in way.direction], list(true))
                ways.append((step, factor))
        for step, factor in ways:
            times = together(standing, ways[0][0], step)
            if times is not None:
                self.assertEqual(value_of(times), ways[0][1] / factor)

    def check_sources(self, standing, heap):
        """Each row is the one that its source gives, by the told rules."""
        book = standing.book
        self.assertEqual([len(heap.sources), len(heap.above_sources), len(heap.eye_sources)],
                         [len(heap.cone.zeros), len(heap.cone.aboves), len(heap.flat.lines)])
        for told, row in zip(heap.sources, heap.cone.zeros):
            self.assertIn(row, self.rows_told(standing, told))
        for (number, at), row in zip(heap.above_sources, heap.cone.aboves):
            fact = book.facts[number]
            self.assertEqual([at, type(fact)], [3, SameWay])
            self.assertIn(row, self.aboves_told(standing, fact))
        for (head, at), line in zip(heap.eye_sources, heap.flat.lines):
            self.assertEqual(line, self.lines_told(standing, heap, head)[at])
        numbers = [head for head, *_ in heap.eye_sources if isinstance(head, int)]
        self.assertEqual([head for head, _ in heap.eye_sources][len(numbers):], [name for name in heap.names[1:] for _ in range(2)])
        tied = [told[:2] for told in heap.sources if len(told) == 3]
        self.assertTrue(tied == sorted(tied) and all(one < other for one, other in tied))
        labels = len({told[:2] for told in heap.sources if len(told) == 3})
        pairs = sum(len(book.pairs(one, other)) for at, one in enumerate(heap.names) for other in heap.names[at + 1:])
        self.assertEqual(labels, pairs - len(heap.names) + 1)

    def rows_told(self, standing, told):
        """The rows that may stand for a source of a zero row."""
        if len(told) == 3:
            one, other = [place_in(standing, Mark.of_point(label)) for label in told[:2]]
            return [one[told[2]] - other[told[2]]]
        fact, at = standing.book.facts[told[0]], told[1]
        if isinstance(fact, Null):
            return [home_form(standing, fact.step)[at]]
        if isinstance(fact, InPlane):
            form, (one, other) = home_form(standing, fact.step), [way_of(standing, step).direction for step in (fact.one, fact.other)]
            numbers = cross_of(one, other)
            return [form[0] * numbers[0] + form[1] * numbers[1] + form[2] * numbers[2]]
        found = []
        for turning, turned in ((fact.one, fact.other), (fact.other, fact.one)):
            way = way_of(standing, turning)
            if way is not None and turned.terms and at < 3:
                found.append(self.crossed(home_form(standing, turned), way.direction)[at])
        if fact.one.is_plain and fact.other.is_plain and fact.one.picture_name == fact.other.picture_name:
            meet = meet_of(standing.book.picture_of(fact.one.picture_name), fact.one, fact.other)
            if meet is not None:
                lines = standing.heap_of(fact.one.picture_name).maps[fact.one.picture_name]
                meet = direction([dot(line, meet) for line in lines])
                rows = [row for step in (fact.one, fact.other) for row in self.crossed(home_form(standing, step), meet)]
                found.append(rows[at])
        return found

    def aboves_told(self, standing, fact):
        found = []
        for turning, turned in ((fact.one, fact.other), (fact.other, fact.one)):
            way = way_of(standing, turning)
            if way is not None and turned.terms:
                at = [number != 0 for number in way.direction].index(True)
                found.append(home_form(standing, turned)[at] * Ratio(1, way.direction[at]))
        return found

    def lines_told(self, standing, heap, head):
        if isinstance(head, str):
            r, u, _ = zip(*heap.maps[head])
            return [product_row(r, u), product_row(r, r) - product_row(u, u)]
        fact = standing.book.facts[head]
        if isinstance(fact, (Foot, Far)):
            r, u, z = zip(*heap.maps[fact.name])
            if isinstance(fact, Far):
                return [product_row(z, z) - product_row(r, r) * fact.s]
            return [product_row(r, z) + product_row(r, r) * fact.a, product_row(u, z) + product_row(u, u) * fact.b]
        v, w = [way_of(standing, step).direction for step in fact.steps]
        if isinstance(fact, Upright):
            return [product_row(v, w)]
        c = together(standing, fact.one, fact.other)
        return [product_row(v, v) * (fact.q * c * c) - product_row(w, w) * fact.p]

    def check_other_orders(self, source, standing):
        """The order of the facts means nothing for what is used, for maps, scenes and eyes."""
        book = standing.book
        order = list(range(len(book.facts)))
        source.shuffle(order)
        other = stand(Book(book.pictures, [book.facts[number] for number in order]))
        self.assertEqual([other.is_possible, other.rounds, len(other.heaps)], [True, standing.rounds, len(standing.heaps)])
        self.assertEqual(sorted(order[number] for number in other.used), list(standing.used))
        for heap, mate in zip(standing.heaps, other.heaps):
            self.assertEqual([heap.names, heap.maps, reduced(heap.cone.zeros)], [mate.names, mate.maps, reduced(mate.cone.zeros)])
            self.assertEqual(heap.flat.reduced, mate.flat.reduced)
            self.assertIn(some_scene(heap.cone).scene, mate.cone)
            self.assertIn(some_scene(mate.cone).scene, heap.cone)

    def test_lengths_of_sides(self):
        """Right and up of one picture are together as their home forms' common divisors; steps with terms never with them."""
        source = random.Random(12)
        world = cube_world(source, ("one", "two"))
        facts = [*box_nulls(world, "one"), *box_nulls(world, "two"), *true_ties(world)]
        standing = stand(Book(world.pictures(), facts))
        right, upward = Step.right_of("two"), Step.up_of("two")
        contents = []
        for step in (right, upward):
            form = home_form(standing, step)
            way = way_of(standing, step)
            self.assertEqual([type(number) for number in form], [int] * 3)
            self.assertEqual([way.direction, way.factor, way.sums, way.above], [direction(form), None, (), None])
            contents.append(form[[bool(number) for number in form].index(True)] // [number for number in way.direction if number][0])
        self.assertEqual([together(standing, right, upward), together(standing, upward, right), together(standing, right, right)],
                         [Ratio(contents[0], contents[1]), Ratio(contents[1], contents[0]), 1])
        self.all_ratios([together(standing, right, upward)])
        for pair in ((right, RIGHT), (UP, upward), (right, between("a", "b", "two")), (between("a", "b"), RIGHT)):
            self.assertIsNone(together(standing, *pair))
        self.assertEqual(together(standing, between("a", "b"), between("c", "d")), 1)
        self.assertIsNone(together(stand(Book([ONE])), AB, AB))
        self.assertIsNone(together(stand(Book(world.pictures(), facts[:8])), between("a", "b"), between("a", "b", "two")))

    def test_chains(self):
        """Two labels are tied by a chain, too: all pairs of a point but the bases give rows."""
        source = random.Random(9)
        world = cube_world(source, ("one", "two", "zwo"), straight=True)
        ties = [Tie(f"one.{letter}", f"two.{letter}") for letter in "abce"] + [Tie(f"two.{letter}", f"zwo.{letter}") for letter in "abce"]
        facts = [fact for name in world.looks for fact in box_nulls(world, name)] + ties
        standing = stand(Book(world.pictures(), facts))
        heap = standing.heaps[0]
        self.assertEqual([heap.names, standing.rounds, standing.book.pairs("one", "zwo")[0]], [("one", "two", "zwo"), 3, ("one.a", "zwo.a")])
        tied = [told[:2] for told in heap.sources if len(told) == 3][::3]
        wanted = [(f"one.{letter}", f"two.{letter}") for letter in "bce"] + [(f"one.{letter}", f"zwo.{letter}") for letter in "bce"]
        wanted += [(f"two.{letter}", f"zwo.{letter}") for letter in "abce"]
        self.assertEqual(tied, sorted(wanted))
        self.check_painted(world, facts)

    def test_equal_answers(self):
        for standing in (HERE, JOINED, *IMPOSSIBLE.values()):
            again = stand(Book(list(standing.book.pictures), list(standing.book.facts)))
            self.assertEqual([again.paper, again.rounds, again.used], [standing.paper, standing.rounds, standing.used])
        self.assertEqual(way_of(HERE, AB), way_of(HERE, Step({"one.b": Ratio(1), "one.a": -1})))

    def test_facts_of_the_document(self):
        """A plain step from a to b with the direction g b~ + h a~ has the factor depth of b by g."""
        for start, end, g in (("a", "b", Fraction(1, 6)), ("a", "d", Fraction(3, 2))):
            factor = way_of(HERE, between(start, end)).factor
            depth = rest_of(HERE.heaps[0].cone.zeros, Row({f"one.{end}": 1}))
            self.assertEqual(factor * ratio_of(g), depth)

    def test_heap_of(self):
        self.assertIs(JOINED.heap_of("two"), JOINED.heaps[0])
        loose = stand(Book([CORNER, AGAIN]))
        self.assertEqual([loose.heap_of(name=name).home for name in ("two", "one")], ["two", "one"])
        for standing in (JOINED, *IMPOSSIBLE.values()):
            for value in (*NO_NAMES, "six", "one.a"):
                self.raised(NoPicture, {"name": value}, standing.heap_of, value)
        for word, standing in IMPOSSIBLE.items():
            self.raised(Impossible, {"word": word}, standing.heap_of, "one")

    def test_errors(self):
        for value in (None, ONE, [ONE], "one : a 0 0", Odd()):
            self.bad(BadBook, "book", stand, value)
        lost, gone, away = Step.between("one.z", "one.y"), Mark({"one.x": 2, "one.w": -1}), Step.up_of("six")
        calls = [(home_form, (AB,)), (place_in, (Mark.of_point("one.a"),)), (way_of, (AB,)), (together, (AB, AB))]
        for call, args in calls:
            for value in (None, HERE.book, HERE.heaps[0], HERE.paper, "one", Odd()):
                self.bad(BadStanding, "standing", call, value, *[None] * len(args))
            for word, standing in IMPOSSIBLE.items():
                self.raised(Impossible, {"word": word}, call, standing, *args)
        for standing in (HERE, IMPOSSIBLE["noeye"]):
            for value in (None, 1, "right one", Null(TILE), Row({}), Odd()):
                self.bad(BadStep, "value", home_form, standing, value)
                self.bad(BadMark, "mark", place_in, standing, value)
                self.bad(BadStep, "step", way_of, standing, value)
                self.bad(BadStep, "one", together, standing, value, None)
                self.bad(BadStep, "other", together, standing, lost, value)
            self.bad(BadMark, "mark", place_in, standing, AB)
            self.bad(BadStep, "step", way_of, standing, Mark.of_point("one.a"))
            for value, error, name in ((lost, NoLabel, "one.y"), (away, NoPicture, "six")):
                self.raised(error, {"name": name}, home_form, standing, value)
                self.raised(error, {"name": name}, way_of, standing, value)
                self.raised(error, {"name": name}, together, standing, value, lost)
                self.raised(error, {"name": name}, together, standing, AB, value)
            self.raised(NoLabel, {"name": "one.w"}, home_form, standing, gone)
            self.raised(NoLabel, {"name": "one.w"}, place_in, standing, gone)

    def test_home_form(self):
        self.assertEqual(home_form(HERE, AB), form_of(ONE, AB))
        self.assertEqual([home_form(HERE, RIGHT), home_form(HERE, UP)], [(1, 0, 0), (0, 1, 0)])
        mark = Mark({"two.a": 2, "two.b": -1})
        rows = form_of(AGAIN, mark)
        self.assertEqual(home_form(JOINED, mark), (rows[0], rows[1], rows[2] - rows[0]))

    def test_short_time(self):
        source, facts = random.Random(6), []
        spots = {letter: tuple(Fraction(source.randint(-999, 999), 7) for _ in range(3)) for letter in LETTERS[:24]}
        for at in range(0, 24, 4):
            a, b, c, d = LETTERS[at:at + 4]
            spots[c] = tuple(p - q + r for p, q, r in zip(spots[b], spots[a], spots[d]))
            facts.append(Null(Step({f"one.{a}": 1, f"one.{b}": -1, f"one.{c}": 1, f"one.{d}": -1})))
        world = World(spots, {"one": Look((Fraction(1, 3), Fraction(1, 2), -3000), SIX.axes, (Fraction(1, 2), 3), 5)}, {"one": list(spots)})
        facts = facts + true_facts(source, world, 12, tries=3000)
        start = time.time()
        self.assertTrue(stand(Book(world.pictures(), facts)).is_possible)
        self.assertLess(time.time() - start, 5)


if __name__ == "__main__":
    unittest.main()
