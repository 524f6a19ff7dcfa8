"""Where marks are drawn: beside where the tests paint them, and with papers reckoned anew."""

import random
import unittest

from alleyes.books import Book
from alleyes.check_standing import shows_paper
from alleyes.drawn import Drawn, Hidden, Sometimes, Spread, drawn, drawn_form, seen_from
from alleyes.errors import BadMark, BadRow, BadStanding, Impossible, NoLabel, NoPicture, NotJoined, TwoPictures
from alleyes.forms import form_of
from alleyes.marks_seen import middle, nth
from alleyes.papers import Denial, Paper
from alleyes.pictures import Picture
from alleyes.ratios import Ratio
from alleyes.rows import Row
from alleyes.shapes import tile_facts
from alleyes.standing import stand
from alleyes.steps import Mark, Step
from tests.painting import box_nulls, cube_world, minus, random_world, true_facts, true_ties
from tests.right_drawn import right_drawn
from tests.support import NO_LISTS, NO_NAMES, Checks, Odd, value_of
from tests.test_standing import AGAIN, CORNER, EDGES, IMPOSSIBLE, JOINED

WIDER = Picture("one", {"a": (0, 0), "b": (6, 0), "c": (4, 2), "d": (2, 2), "e": (1, 5)})
PAVED, BARE = stand(Book([WIDER], tile_facts("one.a", "one.b", "one.c", "one.d"))), stand(Book([WIDER]))
POINT_A, POINT_C = Mark.of_point("one.a"), Mark.of_point("one.c")
LOST, GONE = Mark({"one.z": 2, "one.y": -1}), Mark.of_point("six.a")
NOTHING = Row({})
NO_MARKS = (None, True, 1, "one.a", "one.a 1", [], {}, Row({"one.a": 1}), Step.right_of("one"), Odd())


class DrawnTest(unittest.TestCase, Checks):
    def test_example(self):
        further, between = drawn(PAVED, nth("one.a", "one.d", 2)), drawn(BARE, middle("one.a", "one.b"))
        self.assertEqual([further.x, further.y, bool(drawn(PAVED, nth("one.d", "one.a", 2))), seen_from(PAVED, POINT_A, POINT_C).x],
                         [Ratio(12, 5), Ratio(12, 5), False, 6])
        self.assertEqual([between.word, between.x_range.low, between.x_range.high, drawn(BARE, nth("one.a", "one.b", 2)).word],
                         ["spread", 0, 6, "sometimes"])

    def test_papers(self):
        for paper, word, names in ((Drawn(x=1, y=2, x_even=3, y_even=4), "drawn", "x y x_even y_even"),
                                   (Spread(x_range=[1], y_range=2), "spread", "x_range y_range"),
                                   (Sometimes(below={"one.a": 1}, zero=(), above=3), "sometimes", "below zero above"),
                                   (Hidden(signs=3), "hidden", "signs")):
            self.assertEqual([paper.word, paper.parts], [word, tuple(getattr(paper, name) for name in names.split())])
            self.assertIs(isinstance(paper, Denial), word == "hidden")
            self.assertIs(bool(paper), word != "hidden")
            self.assertIsInstance(paper, Paper)
        self.assertEqual(Spread([1], 2).x_range, (1,))

    def test_signs(self):
        """Above, mixed, below, zero."""
        behind, gone = nth("one.d", "one.a", 2), Mark({"one.a": 3, "one.d": -1, "one.b": -1})
        cone = PAVED.heaps[0].cone
        for mark, kind in ((POINT_C, Drawn), (Mark.of_point("one.e"), Drawn), (Mark.on_way("one.a", "one.e", Ratio(1, 3)), Spread),
                           (behind, Hidden), (nth("one.a", "one.e", 2), Sometimes), (gone, Hidden),
                           (Mark({"one.a": Ratio(3, 2), "one.d": Ratio(-1, 2)}), Hidden)):
            found = drawn(PAVED, mark)
            self.assertIs(type(found), kind)
            self.assertTrue(right_drawn(cone, form_of(WIDER, mark), found))
        zero = drawn(PAVED, Mark({"one.a": Ratio(3, 2), "one.d": Ratio(-1, 2)}))
        self.assertEqual([zero.signs.word, drawn(PAVED, behind).signs.word], ["zero", "below"])
        corner = drawn(PAVED, Mark.of_point("one.e"))
        self.assertEqual([corner.x, corner.y, corner.x_even.number], [1, 5, 1])
        self.all_ratios([corner.x, corner.y])

    def test_half_even(self):
        """One number even and the other one not is a spread place."""
        picture = Picture("one", {"a": (0, 0), "b": (0, 5)})
        found = drawn(stand(Book([picture])), middle("one.a", "one.b"))
        self.assertEqual([found.word, found.x_range.word, found.x_range.number, found.y_range.word, found.y_range.low, found.y_range.high],
                         ["spread", "even", 0, "stretch", 0, 5])

    def test_seen_from(self):
        found = seen_from(PAVED, POINT_A, Mark.of_point("one.b"))
        self.assertEqual([found.word, found.signs.word], ["hidden", "zero"])
        self.assertEqual(seen_from(PAVED, POINT_C, POINT_A).signs.word, "below")
        self.assertEqual(seen_from(BARE, POINT_A, POINT_C).word, "sometimes")
        form = [row - other for row, other in zip(form_of(WIDER, POINT_C), form_of(WIDER, POINT_A))]
        self.assertTrue(right_drawn(PAVED.heaps[0].cone, form, seen_from(PAVED, place=POINT_A, mark=POINT_C)))
        far = Mark({"one.d": 5, "one.a": -4})
        place = seen_from(PAVED, POINT_A, far)
        self.assertEqual([place.x, place.y], [3, 3])

    def test_drawn_form(self):
        mark = nth("one.a", "one.d", 2)
        self.assertEqual(drawn_form(PAVED, "one", list(form_of(WIDER, mark))), drawn(PAVED, mark))
        self.assertEqual(drawn_form(PAVED, "one", (NOTHING, NOTHING, NOTHING)).word, "hidden")
        form = form_of(CORNER, Mark.of_point("one.a"))
        found = drawn_form(standing=JOINED, name="two", form=form)
        self.assertEqual([found.x, found.y], [2, 1])

    def test_painted(self):
        """At the painted depths each mark is where the test paints it; a sure one is drawn there."""
        source, seen = random.Random(7), {}
        for _ in range(50):
            world = random_world(source, source.randint(3, 6), straight=True) if source.random() < 0.5 else cube_world(source)
            facts = true_facts(source, world, source.randint(0, 6))
            if len(world.spots) == 8:
                facts = facts + box_nulls(world, "one")
            standing = stand(Book(world.pictures(), facts))
            self.assertTrue(shows_paper(standing, standing.paper))
            picture, look = standing.book.pictures[0], world.looks["one"]
            for _ in range(8):
                one, other = [f"one.{point}" for point in source.sample(world.seen["one"], 2)]
                mark = Mark.on_way(one, other, Ratio(source.randint(-3, 5), source.choice([1, 2])))
                spot = world.led(mark)
                found = drawn(standing, mark)
                seen[found.word] = True
                self.assertTrue(right_drawn(standing.heaps[0].cone, form_of(picture, mark), found))
                self.check_place(found, look.depth(spot), look.paint(spot) if look.depth(spot) else None)
                place = Mark.of_point(source.choice(picture.labels))
                if place != mark:
                    seen_there = seen_from(standing, place, mark)
                    form = look.form(minus(spot, world.led(place)))
                    self.check_place(seen_there, form[2], (form[0] / form[2], form[1] / form[2]) if form[2] else None)
        self.assertEqual(len(seen), 4)

    def check_place(self, found, depth, place):
        """What is told fits a painted depth and place."""
        if found.word == "hidden":
            self.assertLessEqual(depth, 0)
        elif found.word == "drawn":
            self.assertGreater(depth, 0)
            self.assertEqual((value_of(found.x), value_of(found.y)), place)
        elif found.word == "spread":
            self.assertGreater(depth, 0)
            for told, number in zip((found.x_range, found.y_range), place):
                if told.word == "even":
                    self.assertEqual(value_of(told.number), number)
                else:
                    self.assertTrue(told.low is None or value_of(told.low) < number)
                    self.assertTrue(told.high is None or number < value_of(told.high))

    def test_joined_painted(self):
        """A mark of one picture is drawn by what the ties of another picture tell, too."""
        source = random.Random(3)
        world = cube_world(source, ("one", "two"), straight=True)
        facts = [*box_nulls(world, "one"), *true_ties(world)]
        nulls = box_nulls(world, "two")
        standing = stand(Book(world.pictures(), [*facts, *nulls]))
        mark = Mark({"two.a": 1, "two.b": -1, "two.c": 1})
        spot = world.led(mark)
        found = drawn(standing, mark)
        self.assertEqual((found.word, value_of(found.x), value_of(found.y)), ("drawn", *world.looks["two"].paint(spot)))

    def test_order_of_errors(self):
        two = stand(Book([CORNER, AGAIN], EDGES))
        for value in (None, PAVED.book, PAVED.heaps[0], PAVED.paper, Odd()):
            self.bad(BadStanding, "standing", drawn, value, None)
            self.bad(BadStanding, "standing", seen_from, value, None, None)
            self.bad(BadStanding, "standing", drawn_form, value, None, None)
        for standing in (two, *IMPOSSIBLE.values()):
            for value in NO_MARKS:
                self.bad(BadMark, "mark", drawn, standing, value)
                self.bad(BadMark, "place", seen_from, standing, value, None)
                self.bad(BadMark, "mark", seen_from, standing, LOST, value)
            self.raised(NoLabel, {"name": "one.y"}, drawn, standing, LOST)
            self.raised(NoLabel, {"name": "six.a"}, drawn, standing, GONE)
            self.raised(NoLabel, {"name": "one.y"}, seen_from, standing, LOST, GONE)
            self.raised(NoLabel, {"name": "six.a"}, seen_from, standing, POINT_A, GONE)
            self.bad(BadMark, "mark", seen_from, standing, POINT_A, Mark.of_point("one.a"))
            for value in (*NO_NAMES, "six"):
                self.raised(NoPicture, {"name": value}, drawn_form, standing, value, None)
            for value in (*NO_LISTS, [], (NOTHING,) * 2, (NOTHING,) * 4, (1, 0, 0), (NOTHING, NOTHING, 1), NOTHING):
                self.bad(BadRow, "form", drawn_form, standing, "one", value)
            form = (NOTHING, Row({"one.a": 1, "six.b": 1}), Row({"six.a": 1}))
            self.raised(NoLabel, {"name": "six.b"}, drawn_form, standing, "one", form)
        self.raised(TwoPictures, {"one": "two", "other": "one"}, seen_from, two, Mark.of_point("two.a"), POINT_A)
        bars = IMPOSSIBLE["neverone"]
        self.raised(TwoPictures, {"one": "one", "other": "two"}, seen_from, bars, POINT_A, Mark.of_point("two.a"))
        for word, standing in IMPOSSIBLE.items():
            self.raised(Impossible, {"word": word}, drawn, standing, POINT_A)
            self.raised(Impossible, {"word": word}, seen_from, standing, POINT_A, POINT_C)
            self.raised(Impossible, {"word": word}, drawn_form, standing, "one", (NOTHING,) * 3)
        form = (Row({"two.a": 1}), Row({"one.a": 1}), Row({"one.a": 1}))
        self.raised(NotJoined, {"one": "one", "other": "two"}, drawn_form, two, "one", form)
        self.raised(NotJoined, {"one": "two", "other": "one"}, drawn_form, two, "two", form)
        self.raised(Impossible, {"word": "neverone"}, drawn_form, bars, "one", form)
        self.assertEqual(drawn_form(JOINED, "one", form).word, "drawn")

    def test_equal_answers(self):
        again = stand(Book([WIDER], tile_facts("one.a", "one.b", "one.c", "one.d")))
        for mark in (POINT_A, nth("one.a", "one.e", 2), middle("one.a", "one.e"), nth("one.d", "one.a", 2)):
            self.assertEqual(drawn(again, mark), drawn(PAVED, mark))


if __name__ == "__main__":
    unittest.main()
