"""Pictures: points, places, new pictures, texts."""

import unittest
from unittest.mock import ANY

from alleyes.errors import BadNumber, BadPicture, NoLabel, NoName, SamePlace, TooMany, Twice
from alleyes.pictures import Picture
from alleyes.ratios import Ratio
from tests.support import NO_LABELS, NO_LISTS, NO_NAMES, NO_RATIOS, NO_TEXTS, Checks, Odd

POINTS = {"a": (0, 0), "b": (6, 0), "c": (4, 2), "d": (2, 2)}
ONE = Picture("one", POINTS)
HALF = Ratio(1, 2)


def many_points(many):
    return {f"p{at:02d}": (at, 0) for at in range(many)}


def many_text(many):
    return "one : " + " / ".join(f"{name} {x} {y}" for name, (x, y) in many_points(many).items())


class PicturesTest(unittest.TestCase, Checks):
    def test_example(self):
        self.assertEqual(str(ONE.turned().portion(["d", "b"])), "one : b 0 6 / d -2 2")

    def test_attributes(self):
        made = Picture(name="two", points={"b": [HALF, 0], "a": (0, Ratio(-3))})
        self.assertEqual([made.name, made.names, made.labels], ["two", ("a", "b"), ("two.a", "two.b")])
        self.assertEqual([made.place_of("two.a"), made.place_of(label="two.b")], [(0, -3), (HALF, 0)])
        self.all_ratios([*made.place_of("two.a"), *made.place_of("two.b")])
        self.assertIs(type(made.place_of("two.b")), tuple)
        self.assertEqual(Picture("one", {"a10": (0, 0), "a9": (1, 0), "a": (2, 0)}).names, ("a", "a10", "a9"))

    def test_what_is_passed_is_copied(self):
        place, points = [1, 2], {}
        points["b"] = place
        made = Picture("one", points)
        place[0] = 9
        points["c"] = (0, 0)
        self.assertEqual([str(made), points], ["one : b 1 2", {"b": [9, 2], "c": (0, 0)}])

    def test_wrong_pictures(self):
        for name in NO_NAMES:
            self.bad(BadPicture, "name", Picture, name, None)
            if not isinstance(name, (list, dict)):
                self.bad(BadPicture, "points", Picture, "one", {"a": (0, 0), name: (1, 1)})
        for value in (None, True, 3, [], {}, "a", [("a", (0, 0))], Odd(), ONE):
            self.bad(BadPicture, "points", Picture, "one", value)
        for place in NO_RATIOS + ((1, 2, 3), "12", {0: 1, 1: 2}):
            self.bad(BadPicture, "points", Picture, "one", {"a": place})
        for ratio in NO_RATIOS:
            self.bad(BadPicture, "points", Picture, "one", {"a": (0, 0), "b": (ratio, 1)})
            self.bad(BadPicture, "points", Picture, "one", {"a": (0, 0), "b": [1, ratio]})

    def test_same_place(self):
        points = {"d": (0, 1), "c": (HALF, 1), "b": (0, 1), "a": (Ratio(2, 4), Ratio(1))}
        self.raised(SamePlace, {"one": "a", "other": "c"}, Picture, "one", points)
        self.raised(SamePlace, {"one": "b", "other": "c"}, Picture, "one", {"a": (9, 9), "b": (0, 0), "c": (0, 0),
                                                                           "d": (9, 9)})

    def test_forty_points(self):
        self.assertEqual([len(Picture("one", many_points(40))), len(ONE)], [40, 4])
        self.raised(TooMany, {"what": "points", "most": 40}, Picture, "one", many_points(41))
        self.raised(SamePlace, {"one": "p00", "other": "p41"}, Picture, "one", {**many_points(41), "p41": (0, 0)})

    def test_place_of_errors(self):
        for label in NO_LABELS + ("two.a", "one.e", "a"):
            self.raised(NoLabel, {"name": label}, ONE.place_of, label)

    def test_iteration(self):
        self.assertEqual([list(ONE), sorted(ONE), len(ONE)], [list(ONE.labels), list(ONE.labels), 4])
        self.assertEqual(["one.a" in ONE, "one.e" in ONE, "two.a" in ONE, "a" in ONE], [True, False, False, False])
        for value in NO_LABELS + (ANY,):
            self.assertIs(value in ONE, False)

    def test_equality(self):
        self.assertEqual([ONE == Picture("one", {**POINTS, "a": [Ratio(0), 0]}), ONE != ONE.turned(), ONE != ONE],
                         [True, True, False])
        self.assertEqual([ONE == ONE.renamed("two"), ONE == ONE.moved(0, 1), ONE == ONE.portion(["a"])], [False] * 3)
        swapped = Picture("one", {**POINTS, "a": (6, 0), "b": (0, 0)})
        self.assertIs(ONE == swapped, False)
        self.assertIs(Picture("one", {"a": (0, 0)}) == Picture("one", {"b": (0, 0)}), False)
        for value in (None, "one", str(ONE), POINTS, Odd()):
            self.assertEqual([ONE == value, ONE != value], [False, True])

    def test_portion(self):
        names = ["d", "a"]
        self.assertEqual([str(ONE.portion(names)), str(ONE.portion(("c",))), names],
                         ["one : a 0 0 / d 2 2", "one : c 4 2", ["d", "a"]])
        self.assertEqual(ONE.portion(names=ONE.names), ONE)
        for value in NO_LISTS + ([], ()):
            self.bad(BadPicture, "names", ONE.portion, value)
        with self.assertRaises(NoName) as caught:
            ONE.portion([ANY])
        self.assertIs(caught.exception.name, ANY)
        for name in NO_NAMES + ("e", "one.a"):
            self.raised(NoName, {"name": name}, ONE.portion, ["a", "a", name, "z"])
        self.raised(Twice, {"name": "b"}, ONE.portion, ["a", "b", "c", "b", "a"])

    def test_new_pictures(self):
        self.assertEqual(str(ONE.moved(HALF, -1)), "one : a 1/2 -1 / b 13/2 -1 / c 9/2 1 / d 5/2 1")
        self.assertEqual(str(ONE.enlarged(HALF)), "one : a 0 0 / b 3 0 / c 2 1 / d 1 1")
        self.assertEqual(str(ONE.turned()), "one : a 0 0 / b 0 6 / c -2 4 / d -2 2")
        self.assertEqual(str(ONE.mirrored()), "one : a 0 0 / b -6 0 / c -4 2 / d -2 2")
        self.assertEqual([ONE.moved(u=1, v=2).moved(-1, -2), ONE.enlarged(m=3).enlarged(Ratio(1, 3)),
                          ONE.mirrored().mirrored(), ONE.turned().turned().turned().turned()], [ONE] * 4)
        self.assertEqual(str(ONE), "one : a 0 0 / b 6 0 / c 4 2 / d 2 2")

    def test_new_pictures_errors(self):
        for value in NO_RATIOS:
            self.bad(BadNumber, "u", ONE.moved, value, None)
            self.bad(BadNumber, "v", ONE.moved, 1, value)
            self.bad(BadNumber, "m", ONE.enlarged, value)
        for value in (0, -1, Ratio(0), Ratio(-1, 2)):
            self.bad(BadNumber, "m", ONE.enlarged, value)

    def test_renamed(self):
        names = {"a": "d", "b": "c", "c": "x", "d": "a"}
        self.assertEqual([str(ONE.renamed("two", names)), names["a"]], ["two : a 2 2 / c 6 0 / d 0 0 / x 4 2", "d"])
        self.assertEqual(str(ONE.renamed(name="two")), "two : a 0 0 / b 6 0 / c 4 2 / d 2 2")
        self.assertEqual(ONE.renamed("one", names=None), ONE)
        for name in NO_NAMES:
            self.bad(BadPicture, "name", ONE.renamed, name, 3)
            self.bad(BadPicture, "names", ONE.renamed, "two", {**names, "a": name})
        for value in (True, 3, [], {}, "a", Odd(), {"a": "x"}, {**names, "e": "y"},
                      {"a": "d", "b": "c", "c": "x", "e": "a"}, list(names.items())):
            self.bad(BadPicture, "names", ONE.renamed, "two", value)
        self.raised(Twice, {"name": "x"}, ONE.renamed, "two", {"d": "y", "c": "x", "b": "y", "a": "x"})


class PictureTextsTest(unittest.TestCase, Checks):
    def test_texts(self):
        for text in ("one : a 0 0", "a1 : a 0 0 / b -1/2 3", str(ONE), many_text(40)):
            self.assertEqual(str(Picture.read(text)), text)
        self.assertEqual(Picture.read(str(ONE)), ONE)

    def test_texts_bent(self):
        for text, word in (("", 0), ("One : a 0 0", 0), ("one", 1), ("one a 0 0", 1), ("one: a 0 0", 0), ("one :", 2),
                           ("one : A 0 0", 2), ("one : a", 3), ("one : a x 0", 3), ("one : a 0", 4), ("one : a 0 x", 4),
                           ("one : a 0 0 b 1 1", 5), ("one : a 0 0 /", 6), ("one : a 0 0 / a 1 1", 6),
                           ("one : b 0 0 / a 1 1", 6), ("one : a 0 0 / b 0 0", 8), ("one : a 0 0 / b 0", 8),
                           ("one : a 0 0 / b 1 0 / c 0 0", 12), ("one : a 0 0 ", 5), ("one : a 0 0 / ", 6),
                           ("one :  a 0 0", 2), (" one : a 0 0", 0), ("one : a 0/1 0", 3), ("one : a 0 0 / 1 1", 6),
                           ("one : a 0 " + "1" * 61, 4), ("one : one.a 0 0", 2), (": a 0 0", 0), ("one : a 0 0 0", 5)):
            self.bad_text(word, Picture.read, text)
        for value in NO_TEXTS:
            self.bad_text(0, Picture.read, value)

    def test_forty_one_points(self):
        self.bad_text(2 + 4 * 40 - 1, Picture.read, many_text(41))
        self.bad_text(2 + 4 * 40 - 1, Picture.read, many_text(40) + " /")


if __name__ == "__main__":
    unittest.main()
