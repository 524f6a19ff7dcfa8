"""Scenes: depths, texts."""

import unittest

from alleyes.errors import BadNumber, BadScene, NoLabel
from alleyes.ratios import Ratio
from alleyes.scenes import Scene
from tests.support import NO_LABELS, NO_RATIOS, NO_TEXTS, Checks, Odd

SCENE = Scene({"two.a": 3, "one.b": Ratio(1, 2), "one.a": 1})


class ScenesTest(unittest.TestCase, Checks):
    def test_depths(self):
        self.assertEqual(SCENE.depths, (("one.a", 1), ("one.b", Ratio(1, 2)), ("two.a", 3)))
        self.assertEqual([SCENE.depth_of("one.b"), SCENE.depth_of(label="two.a"), len(SCENE)], [Ratio(1, 2), 3, 3])
        self.all_ratios([depth for _, depth in SCENE.depths])
        depths = {"one.b": 2, "one.a": 1}
        made = Scene(depths=depths)
        depths["one.a"] = 7
        self.assertEqual([str(made), depths], ["one.a 1 one.b 2", {"one.b": 2, "one.a": 7}])

    def test_wrong_depths(self):
        for value in (None, True, 3, "one.a 1", [], {}, (), Odd(), SCENE, [("one.a", 1)]):
            self.bad(BadScene, "depths", Scene, value)
        for label in NO_LABELS:
            if not isinstance(label, (list, dict)):
                self.bad(BadScene, "depths", Scene, {label: 1, "one.a": 1})
        for ratio in NO_RATIOS + (0, -1, Ratio(0), Ratio(-1, 2)):
            self.bad(BadScene, "depths", Scene, {"one.a": 1, "one.b": ratio})

    def test_lacking_labels(self):
        for label in NO_LABELS + ("one.c", "two.b"):
            self.raised(NoLabel, {"name": label}, SCENE.depth_of, label)
            self.assertIs(label in SCENE, False)
        self.assertIs("one.a" in SCENE, True)

    def test_times(self):
        self.assertEqual(str(SCENE * Ratio(2, 3)), "one.a 2/3 one.b 1/3 two.a 2")
        self.assertEqual([str(SCENE * 2), str(SCENE)], ["one.a 2 one.b 1 two.a 6", "one.a 1 one.b 1/2 two.a 3"])
        for value in NO_RATIOS + (0, -1, Ratio(-1, 2), Ratio(0)):
            self.bad(BadNumber, "ratio", lambda: SCENE * value)

    def test_equality(self):
        self.assertEqual([SCENE == Scene(dict(SCENE.depths)), SCENE == SCENE * 2, SCENE != SCENE * 1], [True, False, False])
        self.assertEqual([Scene({"one.a": 1}) == Scene({"one.b": 1}), Scene({"one.a": 1}) == Scene({"one.a": Ratio(1)})],
                         [False, True])
        for value in (None, str(SCENE), dict(SCENE.depths), SCENE.depths, Odd()):
            self.assertEqual([SCENE == value, SCENE != value], [False, True])

    def test_texts(self):
        for text in ("one.a 1", str(SCENE), "one.a 1/2 one.b 7 two.a 1/3"):
            self.assertEqual(str(Scene.read(text)), text)
        self.assertEqual(Scene.read(str(SCENE)), SCENE)
        for text, word in (("", 0), ("x", 0), ("one.a", 1), ("one.a 0", 1), ("one.a -1", 1), ("one.a x", 1), ("0", 0),
                           ("one.a 1 one.a 2", 2), ("one.b 1 one.a 2", 2), ("one.a 1 one.b", 3), ("one.a 1 one.b 0", 3),
                           ("one.a 1 ", 2), ("one.a 1 two", 2), ("one.a 1 two.a 1 x", 4), ("one.a " + "1" * 61, 1),
                           ("one.a 1 one.b 2/4", 3), ("one.a 1 one.b -1/2", 3)):
            self.bad_text(word, Scene.read, text)
        for value in NO_TEXTS:
            self.bad_text(0, Scene.read, value)


if __name__ == "__main__":
    unittest.main()
