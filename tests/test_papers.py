"""Papers: what they keep, what is fixed in them, which are equal."""

import unittest

from alleyes.bowl import AboveEyes, BelowEyes, MixedEyes, NoEye, Sees, ZeroEyes
from alleyes.cones import Above, AllZero, Below, Lies, Mixed, NeverAll, NoScene, Some, Zero
from alleyes.highest import Highest, Upward
from alleyes.papers import Denial, Paper, fixed
from alleyes.ranges import Even, Stretch
from alleyes.ratios import Ratio
from tests.support import Odd

PARTS = {Lies: ["depths"], NoScene: ["weights", "lifts", "depths"], Zero: ["weights"],
         Above: ["weights", "lifts", "depths"], Below: ["weights", "lifts", "depths"],
         Mixed: ["below", "zero", "above"], AllZero: ["weights"], Some: ["zero", "apart"],
         NeverAll: ["weights", "lifts", "depths"], Even: ["number", "weights", "above"],
         Stretch: ["low", "high", "low_end", "high_end", "above"], Sees: ["a", "b", "s"],
         NoEye: ["weights", "a", "b", "t"], ZeroEyes: ["weights"], AboveEyes: ["eye", "bar"],
         BelowEyes: ["eye", "bar"], MixedEyes: ["below", "zero", "above"], Highest: ["a", "b", "s", "weights"],
         Upward: ["a", "b"]}
DENIALS = (NoScene, NeverAll, NoEye)


class PapersTest(unittest.TestCase):
    def test_example(self):
        self.assertEqual(fixed([1, {"b": [2], "a": None}]), (1, (("a", None), ("b", (2,)))))
        self.assertEqual([bool(Paper("note", [1])), bool(Denial("note"))], [True, False])
        self.assertIs(Paper("note", [1]) == Paper("note", (1,)), True)
        self.assertIs(Paper("note", 1) == Denial("note", 1), False)
        self.assertIs(Denial("note", 1) == Paper("note", 1), False)
        self.assertIs(Paper("note", 1) != Denial("note", 1), True)

    def test_fixed(self):
        odd = Odd()
        self.assertEqual(fixed({2: [], 1: {}, 10: [[{"a": [1]}]]}), ((1, ()), (2, ()), (10, (((("a", (1,)),),),))))
        self.assertEqual(fixed(([[1]], ((2,),))), (((1,),), ((2,),)))
        for value in (odd, "ab", 3, None, True, 1.5, Ratio(1, 2)):
            self.assertIs(fixed(value), value)
        self.assertEqual([fixed([]), fixed(()), fixed({})], [()] * 3)
        deep = 1
        for _ in range(60):
            deep = [deep]
        found = fixed(deep)
        for _ in range(60):
            self.assertIs(type(found), tuple)
            found = found[0]
        self.assertEqual(found, 1)

    def test_what_is_passed_is_copied(self):
        weights, depths = [1, [2]], {"one.b": 2, "one.a": 1}
        paper = Paper("note", weights, depths)
        weights[1].append(3)
        depths["one.a"] = 5
        self.assertEqual(paper.parts, ((1, (2,)), (("one.a", 1), ("one.b", 2))))
        self.assertEqual([weights, list(depths)], [[1, [2, 3]], ["one.b", "one.a"]])

    def test_words_and_parts(self):
        self.assertEqual([Paper("note").parts, Paper(word="note").word, Denial("no", 1, [2]).parts],
                         [(), "note", (1, (2,))])
        for kind, names in PARTS.items():
            values = [[name, {"k": [1]}] for name in names]
            wanted = [(name, (("k", (1,)),)) for name in names]
            for paper in (kind(*values), kind(**dict(zip(names, values)))):
                self.assertEqual([paper.word, paper.parts], [kind.__name__.lower(), tuple(wanted)])
                self.assertEqual([getattr(paper, name) for name in names], wanted)
                self.assertIs(bool(paper), kind not in DENIALS)
                self.assertIsInstance(paper, Paper)
                self.assertIs(isinstance(paper, Denial), kind in DENIALS)

    def test_any_values(self):
        odd = Odd()
        for kind, names in PARTS.items():
            for value in (None, True, odd, "x", 1.5):
                paper = kind(*[value for _ in names])
                self.assertEqual(paper.parts, tuple([value for _ in names]))

    def test_papers_keep_what_was_passed(self):
        self.assertIs(type(Zero([1]).weights[0]), int)
        self.assertIs(Zero([True]).weights[0], True)
        self.assertIs(type(Even(1, (), None).number), int)

    def test_equality(self):
        self.assertEqual([Zero([1]) == Zero((Ratio(1),)), Zero([1]) == AllZero([1]), Zero([1]) == Zero([2])],
                         [True, False, False])
        self.assertEqual([Zero([1]) == Paper("zero", [1]), Paper("zero", [1]) == Zero([1])], [False, False])
        self.assertEqual([Above((), (), {}) == Below((), (), {}), NoScene((), (), ()) == NeverAll((), (), ())],
                         [False, False])
        self.assertEqual([Paper("a") == Paper("b"), Paper("a", 1) == Paper("a", 1, 2), Paper("a", 1) == Paper("a", True)],
                         [False, False, True])
        self.assertEqual([Paper("a") != Paper("a"), Paper("a") != Paper("b"), Denial("a") == Denial("a")],
                         [False, True, True])
        self.assertEqual([Denial("a", 1) == Denial("a", 2), Denial("a") == Denial("b")], [False, False])
        for value in (None, ("note",), "note", Odd(), 1):
            self.assertIs(Paper("note") == value, False)
            self.assertIs(Denial("note") != value, True)

    def test_scene_and_eye(self):
        self.assertEqual(str(Lies({"one.b": Ratio(1, 2), "one.a": 3}).scene), "one.a 3 one.b 1/2")
        self.assertEqual(str(Sees(1, 1, 3).as_eye), "1 1 3")


if __name__ == "__main__":
    unittest.main()
