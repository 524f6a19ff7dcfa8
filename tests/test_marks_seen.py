"""Marks that are made of seen points."""

import unittest

from alleyes.errors import BadNumber, NoLabel, TwoPictures
from alleyes.marks_seen import carried, grid_mark, middle, nth
from alleyes.ratios import Ratio
from alleyes.steps import Mark
from tests.support import NO_INTEGERS, NO_LABELS, NO_RATIOS, Checks

A, B, C, OTHER = "one.a", "one.b", "one.c", "two.a"


class MarksSeenTest(unittest.TestCase, Checks):
    def test_marks(self):
        self.assertEqual([str(nth(A, B, number)) for number in (-1, 0, 1, 2)],
                         ["one.a 2 one.b -1", "one.a 1", "one.b 1", "one.a -1 one.b 2"])
        self.assertEqual([str(nth(one=B, other=A, number=3)), str(nth(A, A, 7))], ["one.a 3 one.b -2", "one.a 1"])
        self.assertEqual([str(middle(A, B)), str(middle(A, A))], ["one.a 1/2 one.b 1/2", "one.a 1"])
        self.assertEqual([str(carried(A, B, C)), str(carried(A, B, B)), str(carried(A, A, C)), str(carried(A, B, A))],
                         ["one.a 1 one.b -1 one.c 1", "one.a 1", "one.c 1", "one.a 2 one.b -1"])
        self.assertEqual(carried(top=A, foot=B, other=C), Mark({A: 1, B: -1, C: 1}))
        self.assertEqual([str(grid_mark(A, B, C, 2, Ratio(1, 2))), str(grid_mark(A, B, B, 1, 1)), str(grid_mark(A, A, A, 3, 4)),
                          str(grid_mark(A, A, C, 3, -1)), str(grid_mark(A, B, C, 0, 0))],
                         ["one.a -3/2 one.b 2 one.c 1/2", "one.a -1 one.b 2", "one.a 1", "one.a 2 one.c -1", "one.a 1"])
        self.assertEqual(grid_mark(corner=C, one=A, other=B, m=1, n=0), Mark.of_point(A))

    def test_errors(self):
        for value in NO_LABELS:
            self.raised(NoLabel, {"name": value}, nth, value, None, None)
            self.raised(NoLabel, {"name": value}, nth, A, value, None)
            self.raised(NoLabel, {"name": value}, middle, value, None)
            self.raised(NoLabel, {"name": value}, middle, A, value)
            self.raised(NoLabel, {"name": value}, carried, value, None, None)
            self.raised(NoLabel, {"name": value}, carried, A, value, None)
            self.raised(NoLabel, {"name": value}, carried, A, OTHER, value)
            self.raised(NoLabel, {"name": value}, grid_mark, value, None, None, None, None)
            self.raised(NoLabel, {"name": value}, grid_mark, A, value, None, None, None)
            self.raised(NoLabel, {"name": value}, grid_mark, A, OTHER, value, None, None)
        for value in NO_INTEGERS:
            self.bad(BadNumber, "number", nth, A, OTHER, value)
        for value in NO_RATIOS:
            self.bad(BadNumber, "m", grid_mark, A, OTHER, B, value, None)
            self.bad(BadNumber, "n", grid_mark, A, OTHER, B, 1, value)

    def test_two_pictures(self):
        fields = {"one": "one", "other": "two"}
        for number in (-1, 0, 1, 2):
            self.raised(TwoPictures, fields, nth, A, OTHER, number)
        self.raised(TwoPictures, fields, middle, A, OTHER)
        self.raised(TwoPictures, {"one": "two", "other": "one"}, middle, OTHER, A)
        self.raised(TwoPictures, fields, carried, A, B, OTHER)
        self.raised(TwoPictures, fields, carried, A, OTHER, "zwo.c")
        self.raised(TwoPictures, fields, carried, A, OTHER, OTHER)
        self.raised(TwoPictures, fields, grid_mark, A, B, OTHER, 0, 0)
        self.raised(TwoPictures, fields, grid_mark, A, OTHER, "zwo.a", 1, 0)


if __name__ == "__main__":
    unittest.main()
