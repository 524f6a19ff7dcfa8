"""The sheet: crosses, determinants, directions, lines, meets."""

import unittest

from alleyes.errors import BadNumber, BadPicture, BadStep, NoLabel, NotPlain
from alleyes.pictures import Picture
from alleyes.ratios import Ratio
from alleyes.sheet import cross, determinant, direction_of, meet_of, on_line
from alleyes.steps import Step
from tests.support import NO_LABELS, NO_RATIOS, Checks, Odd

ONE = Picture("one", {"a": (0, 0), "b": (6, 0), "c": (4, 2), "d": (2, 2), "e": (3, 3), "f": (-1, -1)})
NO_TRIPLES = NO_RATIOS + ("abc", (1, 2), [1, 2, 3, 4], (1, 2, None), [True, 1, 1], 3)
HALF = Ratio(1, 2)


def step(one, other):
    return Step.between("one." + one, "one." + other)


class SheetTest(unittest.TestCase, Checks):
    def test_example(self):
        far = step("a", "d")
        self.assertEqual([meet_of(ONE, far, step("b", "c")), meet_of(ONE, far, far)], [(3, 3, 1), None])
        self.assertIs(on_line(ONE, ONE.labels), False)

    def test_cross(self):
        self.assertEqual([cross((1, 0, 0), (0, 1, 0)), cross(one=[0, 1, 0], other=[1, 0, 0]), cross((1, 2, 3), (2, 4, 6))],
                         [(0, 0, 1), (0, 0, -1), (0, 0, 0)])
        self.assertEqual(cross((HALF, 1, 2), (3, -1, HALF)), (Ratio(5, 2), Ratio(23, 4), Ratio(-7, 2)))
        self.all_ratios(cross((1, 2, 3), (4, 5, 6)))
        for value in NO_TRIPLES:
            self.bad(BadNumber, "one", cross, value, None)
            self.bad(BadNumber, "other", cross, (1, 2, 3), value)

    def test_determinant(self):
        self.assertEqual([determinant((1, 0, 0), (0, 1, 0), (0, 0, 1)), determinant((0, 1, 0), (1, 0, 0), (0, 0, 1)),
                          determinant(one=(1, 2, 3), two=(4, 5, 6), three=[7, 8, 10]),
                          determinant((1, 2, 3), (4, 5, 6), (7, 8, 9))], [1, -1, -3, 0])
        self.all_ratios([determinant((1, 0, 0), (0, HALF, 0), (0, 0, 2))])
        for value in NO_TRIPLES:
            self.bad(BadNumber, "one", determinant, value, None, None)
            self.bad(BadNumber, "two", determinant, (1, 2, 3), value, None)
            self.bad(BadNumber, "three", determinant, (1, 2, 3), (1, 2, 3), value)

    def test_direction_of(self):
        for numbers, wanted in (((2, -4, 6), (1, -2, 3)), ((HALF, Ratio(1, 3), 0), (3, 2, 0)), ((0, 0, -5), (0, 0, -1)),
                                ([Ratio(-2, 3), 0, Ratio(4, 9)], (-3, 0, 2)), ((1, 1, 1), (1, 1, 1))):
            found = direction_of(numbers)
            self.assertEqual(found, wanted)
            self.assertEqual([type(number) for number in found], [int] * 3)
            self.assertIs(type(found), tuple)
        for value in NO_TRIPLES + ((0, 0, 0), [Ratio(0), 0, 0]):
            self.bad(BadNumber, "numbers", direction_of, value)

    def test_on_line(self):
        for letters, wanted in (("", True), ("a", True), ("ab", True), ("ade", True), ("adef", True), ("abc", False),
                                ("aaa", True), ("aab", True), ("aadd", True), ("adb", False), ("deb", False),
                                ("aadc", False), ("fead", True), ("eeeb", True)):
            labels = ["one." + letter for letter in letters]
            self.assertIs(on_line(ONE, labels), wanted, letters)
            self.assertIs(on_line(picture=ONE, labels=tuple(labels)), wanted)
        for value in (None, "one", ONE.labels, Odd()):
            self.bad(BadPicture, "picture", on_line, value, None)
        for value in (None, "one.a", 3, {"one.a": 1}, Odd(), {"one.a"}, ONE):
            self.bad(BadPicture, "labels", on_line, ONE, value)
        for label in NO_LABELS + ("one.g", "two.a"):
            self.raised(NoLabel, {"name": label}, on_line, ONE, ["one.a", label, "one.z"])

    def test_meet_of(self):
        for one, other, wanted in (("ad", "bc", (3, 3, 1)), ("bc", "ad", (3, 3, 1)), ("da", "cb", (3, 3, 1)),
                                   ("ab", "dc", (1, 0, 0)), ("ab", "bc", (6, 0, 1)), ("ab", "ac", (0, 0, 1)),
                                   ("fb", "fc", (1, 1, -1)), ("ad", "ef", None), ("ab", "ab", None), ("ab", "ba", None)):
            found = meet_of(ONE, step(*one), step(*other))
            self.assertEqual(found, wanted)
            if found:
                self.assertEqual([type(number) for number in found], [int] * 3)
                self.assertGreater([number for number in found if number][0], 0)
        self.assertEqual(meet_of(picture=ONE, one=step("b", "f"), other=step("c", "f")), (1, 1, -1))
        up = Picture("one", {"a": (0, 0), "b": (0, 1), "c": (1, 0), "d": (1, -5)})
        self.assertEqual(meet_of(up, step("a", "b"), step("c", "d")), (0, 1, 0))

    def test_meet_errors(self):
        plain, bent = step("a", "b"), Step({"one.a": 1, "one.b": -2, "one.c": 1})
        for value in (None, "one", Odd()):
            self.bad(BadPicture, "picture", meet_of, value, None, None)
        for value in (None, True, "one.a -1 one.b 1", Odd(), ONE):
            self.bad(BadStep, "one", meet_of, ONE, value, None)
            self.bad(BadStep, "other", meet_of, ONE, plain, value)
            self.bad(BadStep, "other", meet_of, ONE, bent, value)
        for value in (bent, plain * 2, Step.right_of("one"), Step.up_of("two")):
            self.bad(NotPlain, "one", meet_of, ONE, value, value)
            self.bad(NotPlain, "other", meet_of, ONE, plain, value)
            self.bad(NotPlain, "other", meet_of, ONE, step("y", "z"), value)
        self.raised(NoLabel, {"name": "one.y"}, meet_of, ONE, step("z", "y"), step("a", "x"))
        self.raised(NoLabel, {"name": "one.x"}, meet_of, ONE, step("a", "b"), step("a", "x"))


if __name__ == "__main__":
    unittest.main()
