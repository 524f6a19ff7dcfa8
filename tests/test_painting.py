"""Painting: solids seen by views, beside own sums; depths, ties, books."""

import random
import unittest
from fractions import Fraction

from alleyes.books import Book
from alleyes.errors import BadFact, BadSolid, BadView, Behind, NoLabel, NoPicture, SamePlace, TooMany, Twice
from alleyes.facts import Far, Foot, Null, Tie, Upright
from alleyes.forms import form_at, form_of, placed
from alleyes.painting import book_of, painted, scene_of, ties_of
from alleyes.pictures import Picture
from alleyes.ratios import Ratio
from alleyes.scenes import Scene
from alleyes.solids import Solid
from alleyes.standing import stand
from alleyes.steps import Mark, Step
from alleyes.truths import is_true
from alleyes.views import View, eye_of
from alleyes.words import word_of
from tests.painting import box_nulls, cube_world, holds, random_world, ratio_of, true_facts
from tests.support import NO_NAMES, Checks, Odd, value_of
from tests.test_offers import random_saying
from tests.test_solids import SLAB
from tests.test_standing import ONE
from tests.test_views import LEVEL, SLANTED


def ratios(triple):
    return tuple(ratio_of(part) for part in triple)


def solid_of(world):
    return Solid({name: ratios(spot) for name, spot in world.spots.items()})


def view_of(look):
    return View(ratios(look.place), *[ratios(axis) for axis in look.axes], ratios(look.foot), ratio_of(look.distance))


def views_of(world):
    return {name: view_of(look) for name, look in world.looks.items()}


class PaintingTest(unittest.TestCase, Checks):
    def test_example(self):
        self.assertEqual([painted(SLAB, LEVEL, "one") == ONE, str(scene_of(SLAB, LEVEL, "one")), str(eye_of(LEVEL)),
                          LEVEL.numbers_of((3, -3, 9))],
                         [True, "one.a 1 one.b 1 one.c 3 one.d 3", "3 3 27", (3, -3, 9)])

    def test_painted(self):
        """Pictures and depths beside own sums; the depths are a scene of the picture."""
        source = random.Random(1)
        for _ in range(30):
            world = random_world(source, points=source.randint(1, 7), names=("one", "b2"))
            solid = solid_of(world)
            for picture, (name, look) in zip(world.pictures(), world.looks.items()):
                view = view_of(look)
                self.assertEqual(painted(solid=solid, view=view, name=name), picture)
                scene = scene_of(solid=solid, view=view, name=name)
                self.assertIs(type(scene), Scene)
                self.assertEqual({label: value_of(depth) for label, depth in scene.depths}, world.depths(name))
                eye = eye_of(view)
                self.assertEqual([value_of(part) for part in (eye.a, eye.b, eye.s)], list(look.eye()))
                for point, spot in world.spots.items():
                    # Seen from the view's eye a corner lies in space at (r, u, h / f).
                    r, u, h = view.numbers_of(ratios(spot))
                    self.assertEqual(placed(picture, scene, f"{name}.{point}", eye), (r, u, h.over(view.distance)))
        self.assertEqual(form_at(form_of(ONE, Step.between("one.a", "one.d")), scene_of(SLAB, LEVEL, "one")), (6, 6, 2))

    def test_frames(self):
        """A view with another foot paints the moved picture, one m times as far the enlarged one, with less depths."""
        source = random.Random(2)
        for _ in range(15):
            world = random_world(source, points=4)
            solid, view = solid_of(world), view_of(world.looks["one"])
            picture, scene = painted(solid, view, "one"), scene_of(solid, view, "one")
            (a, b), distance = view.foot, view.distance
            u, v, m = Ratio(source.randint(-9, 9), 2), source.randint(-3, 3), Ratio(source.randint(1, 9), source.randint(1, 4))
            moved = view.framed((a + u, b + v), distance)
            self.assertEqual([painted(solid, moved, "one"), scene_of(solid, moved, "one"), eye_of(moved)],
                             [picture.moved(u, v), scene, eye_of(view).moved(u, v)])
            larger = view.framed((a * m, b * m), distance * m)
            self.assertEqual([painted(solid, larger, "one"), scene_of(solid, larger, "one") * m, eye_of(larger)],
                             [picture.enlarged(m), scene, eye_of(view).enlarged(m)])
            by = ratios([Fraction(source.randint(-9, 9), 3) for _ in range(3)])
            self.assertEqual(painted(solid.moved(by), view.moved(by), "one"), picture)
            self.assertEqual(painted(solid.enlarged(view.place, m), view, "one"), picture)
            self.assertEqual(scene_of(solid.enlarged(view.place, m), view, "one"), scene * m)
            names = sorted(source.sample(solid.names, 2))
            self.assertEqual(painted(solid.portion(names), view, "one"), picture.portion(names))

    def test_behind(self):
        for spots, name in (({"a": (0, 0, 1), "b": (0, 0, 0), "c": (0, 1, -1)}, "b"),
                            ({"a": (0, 0, 1), "b": (0, 1, 1), "c": (0, 1, -1)}, "c"), ({"a": (5, 5, 0)}, "a")):
            for call in (painted, scene_of):
                self.raised(Behind, {"name": name}, call, Solid(spots), LEVEL, "one")
        # SLANTED looks along (1, -2, 2) from (1, 2, 3).
        self.raised(Behind, {"name": "b"}, painted, Solid({"a": (2, 0, 5), "b": (3, 4, 4), "c": (0, 0, 0)}), SLANTED, "one")
        self.assertEqual(painted(Solid({"a": (2, 0, 5)}), SLANTED, "one").place_of("one.a"), (Ratio(1, 2), -1))

    def test_same_place(self):
        """Two corners at one place in space, and one that hides another one, are painted at one place; depths are told."""
        for spots in ({"a": (1, 1, 2), "b": (0, 0, 1), "c": (1, 1, 2)}, {"a": (1, 1, 2), "b": (0, 0, 1), "c": (3, 3, 6)}):
            solid = Solid(spots)
            self.raised(SamePlace, {"one": "a", "other": "c"}, painted, solid, LEVEL, "one")
            self.assertEqual(len(scene_of(solid, LEVEL, "one")), 3)
            self.raised(SamePlace, {"one": "a", "other": "c"}, book_of, solid, {"one": LEVEL})
            self.assertEqual(len(painted(solid.portion(["a", "b"]), LEVEL, "one")), 2)
        self.raised(Behind, {"name": "d"}, painted, Solid({"a": (1, 1, 2), "b": (1, 1, 2), "d": (0, 0, 0)}), LEVEL, "one")

    def test_ties(self):
        found = ties_of(solid=SLAB, one="one", other="two")
        self.assertEqual(found, tuple(Tie(f"one.{name}", f"two.{name}") for name in "abcd"))
        self.assertEqual(ties_of(SLAB.portion(["b"]), "z", "a"), (Tie("z.b", "a.b"),))
        for value in NO_NAMES:
            self.raised(NoPicture, {"name": value}, ties_of, SLAB, value, value)
            self.raised(NoPicture, {"name": value}, ties_of, SLAB, "one", value)
            self.raised(NoPicture, {"name": value}, ties_of, SLAB, value, "one")
        self.raised(Twice, {"name": "one"}, ties_of, SLAB, "one", "one")
        self.bad(BadSolid, "solid", ties_of, None, None, None)

    def test_books(self):
        source = random.Random(3)
        for names in (("one",), ("two", "one"), ("c", "a", "b")):
            world = cube_world(source, names)
            solid, views = solid_of(world), views_of(world)
            facts = true_facts(source, world, 3)
            book = book_of(solid=solid, views=views, facts=facts)
            self.assertEqual([type(book), book.names], [Book, tuple(sorted(names))])
            self.assertEqual(book.pictures, tuple(painted(solid, views[name], name) for name in sorted(names)))
            first = min(names)
            ties = [Tie(f"{first}.{point}", f"{name}.{point}") for name in sorted(names)[1:] for point in solid]
            self.assertEqual(book.facts, (*ties, *facts))
            self.assertEqual(book_of(solid, dict(reversed(list(views.items())))).facts, tuple(ties))

    def test_books_stay_possible(self):
        """With true facts a book of painted pictures is possible, at the painted depths and eyes; what is always is true."""
        source, seen = random.Random(4), {}
        for number in range(14):
            names = ("one",) if number & 1 else ("one", "two")
            world = cube_world(source, names) if number % 3 else random_world(source, 6, names)
            nulls = [fact for name in names for fact in box_nulls(world, name)] if number % 3 else []
            facts = nulls + true_facts(source, world, 6)
            solid, views = solid_of(world), views_of(world)
            self.assertTrue(all(is_true(solid, views, fact) for fact in facts))
            standing = stand(book_of(solid, views, facts))
            self.assertTrue(standing.is_possible)
            for heap in standing.heaps:
                self.assertIn(eye_of(views[heap.home]), heap.flat)
                if len(heap.names) == 1:
                    self.assertIn(scene_of(solid, views[heap.home], heap.home), heap.cone)
            for _ in range(12):
                saying = random_saying(source, world)
                word = word_of(standing, saying).word
                seen[word] = True
                if word in ("always", "never"):
                    self.assertIs(holds(world, saying), word == "always", str(saying))
        self.assertEqual(sorted(seen), ["always", "both", "never", "waits"])

    def test_order_of_errors(self):
        lost = Solid({"a": (0, 0, -1), "b": (0, 0, -1)})
        for value in (None, True, SLAB.corners, LEVEL, Odd()):
            for call in (painted, scene_of):
                self.bad(BadSolid, "solid", call, value, None, None)
            self.bad(BadSolid, "solid", book_of, value, None, None)
        for value in (None, "one", SLAB, eye_of(LEVEL), Odd()):
            for call in (painted, scene_of):
                self.bad(BadView, "view", call, lost, value, None)
            self.bad(BadView, "views", book_of, lost, value, None)
            self.bad(BadView, "views", book_of, lost, {"one": LEVEL, "two": value}, None)
        for value in NO_NAMES:
            for call in (painted, scene_of):
                self.raised(NoPicture, {"name": value}, call, lost, LEVEL, value)
            if value.__hash__:
                self.bad(BadView, "views", book_of, lost, {"one": LEVEL, value: LEVEL}, None)
        for value in ({}, [], [LEVEL], (("one", LEVEL),)):
            self.bad(BadView, "views", book_of, lost, value)
        for value in (None, 1, {}, "null", [None], [Null(Step.between("one.a", "one.b")), Mark.of_point("one.a")], Far("one", 1)):
            self.bad(BadFact, "facts", book_of, lost, {"one": LEVEL}, value)
        gone = [Upright(Step.between("one.y", "one.z"), Step.up_of("six"))]
        self.raised(Behind, {"name": "a"}, book_of, lost, {"one": LEVEL}, gone)
        self.raised(NoLabel, {"name": "one.y"}, book_of, SLAB, {"one": LEVEL}, gone)
        self.raised(NoPicture, {"name": "six"}, book_of, SLAB, {"one": LEVEL}, [Foot("six", 1, 2)])
        self.raised(Behind, {"name": "c"}, book_of, SLAB, {"two": LEVEL,
                                                           "three": View((0, 0, 5), (0, 1, 0), (1, 0, 0), (0, 0, -1), (0, 0), 1)}, gone)
        many = {name: LEVEL for name in ("a", "b", "c", "d", "e")}
        self.raised(TooMany, {"what": "pictures", "most": 4}, book_of, SLAB, many)
        self.assertEqual(len(book_of(SLAB, {name: LEVEL for name in "abcd"}).facts), 12)
        wide = Solid({f"p{number}": (number, 1, 1) for number in range(31)})
        self.raised(TooMany, {"what": "facts", "most": 60}, book_of, wide, {name: LEVEL for name in "abc"})
        self.raised(Twice, {"name": "one.a"}, book_of, SLAB, {"one": LEVEL, "two": LEVEL}, [Tie("one.a", "two.b")])

    def test_most_corners(self):
        solid = Solid({f"p{number}": (number, 1, 1) for number in range(40)})
        self.assertEqual(len(painted(solid, LEVEL, "one")), 40)
        self.assertIs(type(painted(solid, LEVEL, "x")), Picture)


if __name__ == "__main__":
    unittest.main()
