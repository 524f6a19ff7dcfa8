"""Cones: scenes, sums that read nothing, signs of rows; each paper reckoned anew in Fractions."""

import random
import time
import unittest

from alleyes.check_cones import shows_lies, shows_signs, shows_signs_of_rows
from alleyes.cones import Above, AllZero, Below, Cone, Lies, Mixed, NeverAll, NoScene, Some, Zero
from alleyes.cones import signs_of, signs_of_rows, some_scene
from alleyes.errors import BadCone, BadRow, Impossible, NoLabel, Twice
from alleyes.ratios import Ratio
from alleyes.rows import Row
from alleyes.scenes import Scene
from tests.right_cones import right_lies, right_signs, right_signs_of_rows
from tests.support import NO_LABELS, NO_LISTS, NO_RATIOS, Checks, Odd, total_of

FOUR = ["one.a", "one.b", "one.c", "one.d"]
TILED = [Row.read("one.b -6 one.c 4 one.d -2"), Row.read("one.c 2 one.d -2"),
         Row.read("one.a 1 one.b -1 one.c 1 one.d -1")]
FLOOR = Cone(FOUR, TILED)
BEAMS = Cone(["one.p", "one.q", "one.r"], [Row({"one.p": -1, "one.q": 1}), Row({"one.q": -1, "one.r": 1}),
                                            Row({"one.p": -4, "one.r": 6})])
DEEP = Cone(["one.a", "one.b"], [], [Row({"one.a": 1, "one.b": -1})])
NOTHING = Row({})
WORDS = {"zero": (True, False, False), "above": (False, True, False), "below": (False, False, True),
         "mixed": (True, True, True)}


def random_row(source, labels):
    chosen = source.sample(labels, source.randint(0, min(4, len(labels))))
    return Row({label: Ratio(source.randint(-3, 3), source.choice([1, 1, 2])) for label in chosen})


def random_cone(source):
    labels = ["one." + letter for letter in "abcdef"[:source.randint(1, 6)]]
    source.shuffle(labels)
    rows = [[random_row(source, labels) for _ in range(source.randint(0, most))] for most in (3, 3)]
    return Cone(labels, rows[0], rows[1])


def possible_cones(seed, many):
    """So many random cones with a scene."""
    source = random.Random(seed)
    while many:
        cone = random_cone(source)
        if some_scene(cone):
            many -= 1
            yield source, cone


def large_cone(seed, zeros, aboves, terms, scene=True):
    """A cone of 24 labels and rows of ratios of six digits, above and below; with the scene if one is wanted."""
    source = random.Random(seed)
    labels = ["one." + letter for letter in "abcdefghijklmnopqrstuvwx"]
    depths = {label: Ratio(source.randint(1, 999999), source.randint(1, 999999)) for label in labels}

    def row():
        chosen = source.sample(labels, terms)
        return Row({label: Ratio(source.randint(-999999, 999999), source.randint(1, 999999)) for label in chosen})

    def leveled(found):
        last = found.labels[-1]
        return found - Row({last: found.at(depths).over(depths[last])}) if scene else found

    def lifted(found):
        return -found if found.at(depths).sign < 0 and scene else found

    return Cone(labels, [leveled(row()) for _ in range(zeros)], [lifted(row()) for _ in range(aboves)]), row


class ConesTest(unittest.TestCase, Checks):
    def test_example(self):
        self.assertEqual([{"one.a": 2, "one.b": 2, "one.c": 6, "one.d": 6} in FLOOR, {"one.a": 1} in FLOOR, FLOOR.free,
                          len(FLOOR)], [True, False, ("one.d",), 4])
        self.assertEqual([signs_of(FLOOR, Row({"one.c": 1, "one.a": -3})).weights,
                          signs_of(FLOOR, Row({"one.a": 1, "one.c": -1})).word], [(Ratio(1, 2), 1, -3), "below"])
        self.assertEqual([some_scene(BEAMS).word, shows_lies(BEAMS, NoScene((6, 6, -1), (), {"one.p": 2}))],
                         ["noscene", True])
        apart, alike = Row({"one.a": 1, "one.b": -2}), Row({"one.a": 1, "one.b": -1})
        self.assertEqual([signs_of(DEEP, apart).word, signs_of(DEEP, alike).lifts,
                          signs_of_rows(DEEP, [apart, apart]).word, signs_of_rows(DEEP, [apart, alike]).word],
                         ["mixed", (1,), "some", "neverall"])

    def test_attributes(self):
        labels, zeros, aboves = ["one.b", "one.a"], [NOTHING], [Row({"one.b": 1})]
        cone = Cone(labels=labels, zeros=zeros, aboves=aboves)
        labels.append("one.c"), zeros.append(NOTHING), aboves.pop()
        self.assertEqual([cone.labels, cone.zeros, cone.aboves], [("one.a", "one.b"), (NOTHING,), (Row({"one.b": 1}),)])
        self.assertEqual([type(part) for part in (cone.labels, cone.zeros, cone.aboves)], [tuple] * 3)
        self.assertEqual([cone.free, len(cone), Cone(("one.a",), ()).aboves], [("one.a", "one.b"), 2, ()])
        self.assertEqual([BEAMS.free, Cone(["one.a", "one.b"], [Row({"one.b": 1})]).free], [(), ("one.a",)])

    def test_wrong_cones(self):
        row = Row({"one.a": 1})
        for value in NO_LISTS + ([], ()):
            self.bad(BadCone, "labels", Cone, value, None, None)
        for label in NO_LABELS:
            self.bad(BadCone, "labels", Cone, ["one.a", "one.a", label], None, None)
        for value in NO_LISTS + ([None], [row, "0"], row, {"one.a": 1}):
            self.bad(BadRow, "zeros", Cone, ["one.a", "one.a"], value, None)
            self.bad(BadRow, "aboves", Cone, ["one.a", "one.a"], [Row({"two.z": 1})], value)
            self.bad(BadRow, "zeros", FLOOR.narrowed, value, None)
            self.bad(BadRow, "aboves", FLOOR.narrowed, [Row({"two.z": 1})], value)
        self.raised(Twice, {"name": "one.b"}, Cone, ["one.a", "one.b", "one.b", "one.a"], [Row({"two.z": 1})])
        zeros = [row, Row({"one.y": 1, "one.x": 1}), Row({"one.b": 1})]
        self.raised(NoLabel, {"name": "one.x"}, Cone, ["one.a"], zeros, [Row({"one.c": 1})])
        self.raised(NoLabel, {"name": "one.c"}, Cone, ["one.a"], [row], [row, Row({"one.c": 1})])
        self.raised(NoLabel, {"name": "one.x"}, FLOOR.narrowed, zeros, [Row({"one.e": 1})])
        self.raised(NoLabel, {"name": "one.e"}, FLOOR.narrowed, aboves=[Row({"one.a": 1, "one.e": 1})])

    def test_scenes_in_cones(self):
        for depths, wanted in (({"one.a": 2, "one.b": 1}, True), ({"one.a": 1, "one.b": 1}, False),
                               ({"one.a": 1, "one.b": 2}, False), ({"one.a": 2, "one.b": 0}, False),
                               ({"one.a": 2, "one.b": -1}, False), ({"one.a": 2, "one.b": 1, "one.c": 1}, False),
                               ({"one.a": 2, "one.b": True}, False), ({"one.a": 2, "one.c": 1}, False),
                               ({"one.a": Ratio(2, 3), "one.b": Ratio(1, 2)}, True), ({"one.a": 2, "one.b": "1"}, False)):
            self.assertIs(depths in DEEP, wanted, depths)
        for value in (None, 3, [("one.a", 2), ("one.b", 1)], "one.a 2 one.b 1", Odd(), Lies({"one.a": 2, "one.b": 1})):
            self.assertIs(value in DEEP, False)
        self.assertEqual([Scene({"one.a": 2, "one.b": 1}) in DEEP, Scene({"one.a": 1, "one.b": 1}) in DEEP], [True, False])
        self.assertIs({"one.a": 1, "one.b": 1, "one.c": 3, "one.d": Ratio(5, 2)} in FLOOR, False)

    def test_equality(self):
        same = Cone(reversed_list(FOUR), TILED)
        self.assertEqual([FLOOR == same, FLOOR != same, FLOOR == Cone(FOUR, TILED[::-1]), FLOOR == Cone(FOUR, TILED[:2]),
                          FLOOR == Cone(FOUR, TILED, [NOTHING]), Cone(["one.a"], []) == Cone(["one.b"], [])],
                         [True, False, False, False, False, False])
        for value in (None, FOUR, Odd(), "cone"):
            self.assertEqual([FLOOR == value, FLOOR != value], [False, True])

    def test_narrowed(self):
        low, high = Row({"one.a": 1, "one.b": -2}), Row({"one.b": 1})
        cone = DEEP.narrowed([low], [high])
        self.assertEqual([cone.zeros, cone.aboves], [(low,), (DEEP.aboves[0], high)])
        self.assertEqual(cone.narrowed(zeros=(high,)).zeros, (low, high))
        self.assertEqual([DEEP.narrowed() == DEEP, DEEP.zeros, len(DEEP.aboves)], [True, (), 1])

    def test_edges(self):
        bare = Cone(["one.a", "one.b"], [])
        self.assertIs(right_lies(bare, some_scene(bare)), True)
        lone = Cone(["one.a"], [Row({"one.a": 2})])
        self.assertEqual(some_scene(lone).word, "noscene")
        self.assertEqual(some_scene(Cone(["one.a"], [NOTHING, NOTHING])).word, "lies")
        self.assertEqual(some_scene(Cone(["one.a"], [], [NOTHING])).word, "noscene")
        self.assertEqual(some_scene(Cone(["one.a"], [], [Row({"one.a": -1})])).word, "noscene")
        self.assertEqual(some_scene(DEEP.narrowed(DEEP.aboves)).word, "noscene")
        twice = Cone(FOUR, TILED + TILED + [NOTHING])
        self.assertIs(right_lies(twice, some_scene(twice)), True)
        self.assertIs(right_signs(twice, TILED[0], signs_of(twice, TILED[0])), True)
        for cone in (lone, Cone(["one.a"], [], [NOTHING]), DEEP.narrowed(DEEP.aboves), BEAMS):
            self.assertIs(right_lies(cone, some_scene(cone)), True)
        self.assertEqual([signs_of(bare, NOTHING).parts, signs_of(DEEP, NOTHING).parts, signs_of(bare, Row({"one.a": 1})).parts],
                         [((),), ((),), ((), (), (("one.a", 1),))])

    def test_scene_of_lies(self):
        found = some_scene(FLOOR)
        self.assertIs(type(found.scene), Scene)
        self.assertEqual([found.scene in FLOOR, dict(found.depths) in FLOOR, found.scene.depths], [True, True, found.depths])

    def test_many_scenes(self):
        source, words = random.Random(1), {}
        for _ in range(500):
            cone = random_cone(source)
            found = some_scene(cone)
            words[found.word] = words.get(found.word, 0) + 1
            self.assertIn(type(found), (Lies, NoScene))
            self.assertIs(bool(found), type(found) is Lies)
            self.assertIs(right_lies(cone, found), True)
            self.assertIs(shows_lies(cone, found), True)
            self.check_ratios(found)
            self.assertEqual(found, some_scene(Cone(cone.labels, list(cone.zeros), list(cone.aboves))))
        self.assertGreater(min(words.values()), 60)

    def check_ratios(self, paper):
        """All numbers of a paper that a function returned are Ratios."""
        parts = [paper.parts]
        while parts:
            part = parts.pop()
            if isinstance(part, tuple):
                parts.extend(part)
            elif not isinstance(part, str):
                self.assertIs(type(part), Ratio)

    def test_many_signs(self):
        words = {}
        for source, cone in possible_cones(2, 250):
            row = random_row(source, list(cone.labels))
            found = signs_of(cone, row)
            words[found.word] = words.get(found.word, 0) + 1
            self.assertIn(type(found), (Zero, Above, Below, Mixed))
            self.assertIs(right_signs(cone, row, found), True)
            self.assertIs(shows_signs(cone, row, found), True)
            self.check_ratios(found)
            others = (cone.narrowed([row]), cone.narrowed((), [row]), cone.narrowed(aboves=[-row]))
            self.assertEqual(tuple([bool(some_scene(other)) for other in others]), WORDS[found.word])
            self.assertEqual(found, signs_of(cone, row * 1))
        self.assertGreater(min(words.values()), 20)

    def test_many_signs_of_rows(self):
        words = {}
        for source, cone in possible_cones(3, 250):
            rows = [random_row(source, list(cone.labels)) for _ in range(source.randint(1, 3))]
            if source.random() < 0.3 and cone.zeros:
                rows = [cone.zeros[0] * source.randint(-2, 2) for _ in rows]
            found = signs_of_rows(cone, rows)
            words[found.word] = words.get(found.word, 0) + 1
            self.assertIn(type(found), (AllZero, Some, NeverAll))
            self.assertIs(right_signs_of_rows(cone, rows, found), True)
            self.assertIs(shows_signs_of_rows(cone, rows, found), True)
            self.check_ratios(found)
            self.assertIs(type(found) is NeverAll, not some_scene(cone.narrowed(rows)))
            self.assertIs(type(found) is AllZero, all(signs_of(cone, row).word == "zero" for row in rows))
            self.assertEqual(found, signs_of_rows(cone, tuple(rows)))
        self.assertGreater(min(words.values()), 20)

    def test_some_where_the_first_scene_is_no_help(self):
        cone = Cone(["one.a", "one.b"], [])
        row = Row({"one.a": 1, "one.b": -1})
        for rows in ([row], [row, row * -2], [NOTHING, row]):
            found = signs_of_rows(cone, rows)
            self.assertIs(right_signs_of_rows(cone, rows, found), True)
            self.assertEqual(found.word, "some")

    def test_further_rows_keep_signs(self):
        for source, cone in possible_cones(4, 60):
            row = random_row(source, list(cone.labels))
            narrow = cone.narrowed([random_row(source, list(cone.labels))], [random_row(source, list(cone.labels))])
            word = signs_of(cone, row).word
            if word != "mixed" and some_scene(narrow):
                self.assertEqual(signs_of(narrow, row).word, word)

    def test_errors(self):
        row = Row({"one.a": 1})
        for value in (None, True, "cone", FOUR, Odd(), {"one.a": 1}):
            self.bad(BadCone, "cone", some_scene, value)
            self.bad(BadCone, "cone", signs_of, value, None)
            self.bad(BadCone, "cone", signs_of_rows, value, None)
        for value in (None, True, "0", {"one.a": 1}, [row], Odd()):
            self.bad(BadRow, "row", signs_of, BEAMS, value)
        for value in NO_LISTS + ([], (), [row, None], row):
            self.bad(BadRow, "rows", signs_of_rows, BEAMS, value)
        other = Row({"two.b": 1, "two.a": 1, "one.p": 1})
        self.raised(NoLabel, {"name": "two.a"}, signs_of, BEAMS, other)
        self.raised(NoLabel, {"name": "two.a"}, signs_of_rows, BEAMS, [Row({"one.p": 1}), other, row])
        self.raised(Impossible, {"word": "noscene"}, signs_of, BEAMS, Row({"one.p": 1}))
        self.raised(Impossible, {"word": "noscene"}, signs_of, BEAMS, NOTHING)
        self.raised(Impossible, {"word": "noscene"}, signs_of_rows, BEAMS, [NOTHING])

    def test_names_of_arguments(self):
        row = Row({"one.a": 1})
        self.assertEqual([some_scene(cone=FLOOR).word, signs_of(cone=FLOOR, row=row).word,
                          signs_of_rows(cone=FLOOR, rows=[row]).word], ["lies", "above", "neverall"])

    def test_large_cones(self):
        for seed, zeros, aboves, terms in ((1, 12, 6, 4), (2, 18, 6, 4), (3, 8, 8, 12), (4, 20, 0, 6)):
            cone, row = large_cone(seed, zeros, aboves, terms)
            found = some_scene(cone)
            self.assertEqual([found.word, right_lies(cone, found)], ["lies", True])
            told = row()
            self.assertIs(right_signs(cone, told, signs_of(cone, told)), True)
            barred, _ = large_cone(seed, 24, 2, terms, scene=False)
            self.assertEqual([some_scene(barred).word, right_lies(barred, some_scene(barred))], ["noscene", True])

    def test_short_times(self):
        begun = time.monotonic()
        cone, row = large_cone(9, 16, 8, 8)
        for told in [row() for _ in range(3)]:
            self.assertIs(shows_signs(cone, told, signs_of(cone, told)), True)
        chain = sorted(f"p{at}.x" for at in range(60))
        steps = [Row({one: 1, other: -2}) for one, other in zip(chain, chain[1:])]
        self.assertEqual(some_scene(Cone(chain, [], steps)).word, "lies")
        self.assertEqual(some_scene(Cone(chain, [], [*steps, Row({chain[-1]: 1, chain[0]: -1})])).word, "noscene")
        self.assertLess(time.monotonic() - begun, 30)

    def test_a_search_is_made_once(self):
        cone = Cone(FOUR, TILED)
        self.assertIs(cone.footing, cone.footing)

    def test_scenes_add_up(self):
        for _, cone in possible_cones(5, 20):
            depths = dict(some_scene(cone).depths)
            self.assertIn({label: depth * Ratio(2, 7) for label, depth in depths.items()}, cone)
            self.assertEqual([total_of(row, depths) for row in cone.zeros], [0] * len(cone.zeros))

    def test_ratios_that_are_none(self):
        for ratio in NO_RATIOS:
            self.assertIs({"one.a": ratio, "one.b": 1} in DEEP, False)


def reversed_list(values):
    return list(reversed(values))


if __name__ == "__main__":
    unittest.main()
