"""Checks of drawn marks and measures: bent parts are taken exactly if they are right, reckoned in Fractions."""

import random
import unittest

from alleyes.books import Book
from alleyes.check_drawn import shows_drawn, shows_drawn_form, shows_part, shows_seen
from alleyes.cones import Above, Mixed, Zero
from alleyes.drawn import Drawn, Hidden, Sometimes, Spread, drawn, drawn_form, seen_from
from alleyes.errors import BadMark, BadRow, BadStanding, BadStep, Impossible, NoLabel, NoPicture, NotJoined, Twice, TwoPictures, Unsettled
from alleyes.forms import form_of
from alleyes.marks_seen import middle, nth
from alleyes.papers import Paper
from alleyes.pictures import Picture
from alleyes.ranges import Even
from alleyes.ratios import Ratio
from alleyes.ready import part_way
from alleyes.rows import Row
from alleyes.standing import home_form, stand
from alleyes.steps import Mark, Step
from tests.bending import parts_bent
from tests.right_cones import right_stretch
from tests.right_drawn import right_drawn
from tests.right_words import between_labels, dotted, plane
from tests.support import Checks, Odd
from tests.test_check_standing import NO_PAPERS
from tests.test_drawn import BARE, PAVED, POINT_A, POINT_C, WIDER
from tests.test_standing import AGAIN, CORNER, EDGES, IMPOSSIBLE, between

MARKS = [nth("one.a", "one.d", 2), middle("one.a", "one.e"), nth("one.a", "one.e", 2), nth("one.d", "one.a", 2),
         Mark({"one.a": Ratio(3, 2), "one.d": Ratio(-1, 2)}), Mark.of_point("one.e")]
RIGHT, UP = Step.right_of("one"), Step.up_of("one")


class CheckDrawnTest(unittest.TestCase, Checks):
    def test_bent_papers(self):
        source, taken = random.Random(1), 0
        cone = PAVED.heaps[0].cone
        for mark in MARKS:
            form = form_of(WIDER, mark)
            paper = drawn(PAVED, mark)
            self.assertIs(shows_drawn(PAVED, mark, paper), True)
            self.assertIs(shows_drawn_form(PAVED, "one", form, paper), True)
            for other in (*NO_PAPERS, *[drawn(PAVED, each) for each in MARKS]):
                self.assertIs(shows_drawn(PAVED, mark, other), right_drawn(cone, form, other))
            for _ in range(300):
                other = type(paper)(*parts_bent(paper.parts, source))
                wanted = right_drawn(cone, form, other)
                taken += wanted
                self.assertIs(shows_drawn(PAVED, mark, other), wanted, other.parts)
                self.assertIs(shows_drawn_form(PAVED, "one", list(form), other), wanted)
        self.assertGreater(taken, 3)

    def test_bent_views(self):
        source = random.Random(2)
        cone = PAVED.heaps[0].cone
        for place, mark in ((POINT_A, POINT_C), (POINT_C, POINT_A), (POINT_A, Mark.of_point("one.b")), (POINT_A, Mark.of_point("one.e")),
                            (Mark.of_point("one.b"), nth("one.d", "one.e", -3))):
            form = [row - other for row, other in zip(form_of(WIDER, mark), form_of(WIDER, place))]
            paper = seen_from(PAVED, place, mark)
            self.assertIs(shows_seen(PAVED, place, mark, paper), True)
            for _ in range(200):
                other = type(paper)(*parts_bent(paper.parts, source))
                self.assertIs(shows_seen(PAVED, place, mark, other), right_drawn(cone, form, other), other.parts)

    def test_other_words(self):
        """Papers under another word, or in one another's place."""
        sure, spread = drawn(PAVED, MARKS[0]), drawn(PAVED, MARKS[1])
        x_even, y_even = sure.x_even, sure.y_even
        for value in (Spread(x_even, y_even), Drawn(sure.x, sure.y, y_even, x_even) if sure.x != sure.y else Paper("drawn", *sure.parts),
                      Drawn(sure.x + 1, sure.y, x_even, y_even), Drawn(True, sure.y, x_even, y_even), Paper("drawn", *sure.parts), Hidden(x_even.above),
                      Hidden(Zero((0, 0, 0)))):
            self.assertIs(shows_drawn(PAVED, MARKS[0], value), False)
        self.assertIs(shows_drawn(PAVED, MARKS[1], Spread(spread.y_range, spread.x_range)), False)
        self.assertIs(shows_drawn(PAVED, MARKS[1], Drawn(1, 2, spread.x_range, spread.y_range)), False)
        corner = drawn(PAVED, MARKS[5])
        self.assertIs(shows_drawn(PAVED, MARKS[5], Drawn(1, 5, corner.x_even, corner.y_even)), True)
        whole = [Even(even.number.top, even.weights, even.above) for even in (corner.x_even, corner.y_even)]
        for x, wanted in ((1, True), (Ratio(1), True), (True, False), (1.0, False), ("1", False), (None, False), (2, False)):
            self.assertIs(shows_drawn(PAVED, MARKS[5], Drawn(x, 5, *whole)), wanted)
            self.assertIs(shows_drawn(PAVED, MARKS[5], Drawn(x, Ratio(5), corner.x_even, whole[1])), wanted)
        self.assertIs(shows_drawn(PAVED, MARKS[5], Drawn(1, True, *whole)), False)
        parts = drawn(PAVED, MARKS[2]).parts
        self.assertIs(shows_drawn(PAVED, MARKS[2], Mixed(*parts)), False)
        self.assertIs(shows_drawn(PAVED, MARKS[2], Sometimes(*parts[::-1])), False)
        self.assertIs(shows_drawn(PAVED, MARKS[2], Sometimes(*[[*part][::-1] for part in parts])), True)

    def test_half_even(self):
        """One number even and the other one not is a Spread, both even are none."""
        for points in ({"a": (0, 0), "b": (0, 5)}, {"a": (0, 0), "b": (5, 0)}):
            standing = stand(Book([Picture("one", points)]))
            mark = middle("one.a", "one.b")
            found = drawn(standing, mark)
            self.assertIs(shows_drawn(standing, mark, found), True)
            self.assertIs(shows_drawn(standing, mark, Spread(found.y_range, found.x_range)), False)
            for one in (found.x_range, found.y_range):
                self.assertIs(shows_drawn(standing, mark, Spread(one, one)), False)
        sure = drawn(PAVED, MARKS[0])
        self.assertIs(shows_drawn(PAVED, MARKS[0], Spread(sure.x_even, sure.y_even)), False)

    def test_bent_measures(self):
        source, taken = random.Random(3), 0
        cone = PAVED.heaps[0].cone
        for label, one, other in (("one.e", "one.a", "one.d"), ("one.e", "one.d", "one.a"), ("one.c", "one.a", "one.d"), ("one.c", "one.d", "one.a")):
            paper = part_way(PAVED, label, one, other, RIGHT, UP)
            numbers = plane(PAVED, RIGHT, UP)
            top, under = [dotted(between_labels(PAVED, one, end), numbers) for end in (label, other)]
            if one == "one.d":
                top, under = -top, -under
            self.assertIs(shows_part(PAVED, label, one, other, RIGHT, UP, paper), True)
            self.assertTrue(right_stretch(cone, top, under, paper))
            for _ in range(200):
                bent = type(paper)(*parts_bent(paper.parts, source))
                wanted = right_stretch(cone, top, under, bent)
                taken += wanted
                self.assertIs(shows_part(PAVED, label, one, other, RIGHT, UP, bent), wanted, bent.parts)
            for value in NO_PAPERS:
                self.assertIs(shows_part(PAVED, label, one, other, RIGHT, UP, value), False)
        self.assertGreater(taken, 0)

    def test_errors(self):
        """The errors of what they check, whatever the value is."""
        two = stand(Book([CORNER, AGAIN], EDGES))
        gone = Mark({"one.z": 2, "one.y": -1})
        nothing = Row({})
        self.bad(BadStanding, "standing", shows_drawn, None, None, None)
        self.bad(BadStanding, "standing", shows_seen, Odd(), None, None, None)
        self.bad(BadStanding, "standing", shows_drawn_form, None, None, None, None)
        self.bad(BadStanding, "standing", shows_part, None, None, None, None, None, None, None)
        self.bad(BadMark, "mark", shows_drawn, two, AGAIN, None)
        self.raised(NoLabel, {"name": "one.y"}, shows_drawn, two, gone, None)
        self.bad(BadMark, "place", shows_seen, two, AGAIN, None, None)
        self.bad(BadMark, "mark", shows_seen, two, gone, None, None)
        self.raised(TwoPictures, {"one": "one", "other": "two"}, shows_seen, two, POINT_A, Mark.of_point("two.a"), None)
        self.bad(BadMark, "mark", shows_seen, two, POINT_A, POINT_A, None)
        self.raised(NoPicture, {"name": "six"}, shows_drawn_form, two, "six", None, None)
        self.bad(BadRow, "form", shows_drawn_form, two, "one", (nothing, nothing), None)
        self.raised(NotJoined, {"one": "one", "other": "two"}, shows_drawn_form, two, "one", (nothing, nothing, Row({"two.a": 1})), None)
        self.raised(NoLabel, {"name": "one.z"}, shows_part, two, "one.z", None, None, None, None, None)
        self.bad(BadStep, "mate", shows_part, two, "one.a", "one.a", "one.a", UP, None, None)
        self.raised(Twice, {"name": "one.a"}, shows_part, two, "one.b", "one.a", "one.a", UP, UP, None)
        self.raised(NotJoined, {"one": "one", "other": "two"}, shows_part, two, "one.b", "one.a", "one.b", UP, Step.up_of("two"), None)
        self.bad(Unsettled, "side", shows_part, BARE, "one.b", "one.a", "one.b", between("a", "b"), UP, None)
        self.bad(Unsettled, "mate", shows_part, BARE, "one.b", "one.a", "one.b", UP, UP, None)
        self.bad(Unsettled, "other", shows_part, BARE, "one.b", "one.a", "one.b", UP, RIGHT, None)
        for word, standing in IMPOSSIBLE.items():
            fields = {"word": word}
            self.raised(Impossible, fields, shows_drawn, standing, POINT_A, None)
            self.raised(Impossible, fields, shows_seen, standing, POINT_A, POINT_C, None)
            self.raised(Impossible, fields, shows_drawn_form, standing, "one", (nothing,) * 3, None)
            self.raised(Impossible, fields, shows_part, standing, "one.b", "one.a", "one.b", UP, UP, None)

    def test_forms_of_two_pictures(self):
        rows = home_form(PAVED, POINT_C)
        self.assertEqual(drawn_form(PAVED, "one", rows), drawn(PAVED, POINT_C))
        self.assertIs(type(drawn(PAVED, POINT_C).x_even.above), Above)


if __name__ == "__main__":
    unittest.main()
