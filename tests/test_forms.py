"""Forms: rows of steps and marks, forms at scenes, space, products."""

import random
import unittest

from alleyes.errors import BadEye, BadNumber, BadPicture, BadRow, BadScene, BadStep, NoLabel, NoPicture
from alleyes.eyes import Eye
from alleyes.forms import form_at, form_of, in_space, place_at, placed, product
from alleyes.pictures import Picture
from alleyes.ratios import Ratio
from alleyes.rows import Row
from alleyes.scenes import Scene
from alleyes.steps import Mark, Step
from tests.support import NO_LABELS, NO_RATIOS, Checks, Odd, value_of

ONE = Picture("one", {"a": (0, 0), "b": (6, 0), "c": (4, 2), "d": (2, 2)})
SCENE = Scene({"one.a": 1, "one.b": 1, "one.c": 3, "one.d": 3})
EYE = Eye(3, 1, 15)
TILE = Step({"one.a": 1, "one.b": -1, "one.c": 1, "one.d": -1})
FAR = Step.between("one.a", "one.d")
SIDE = Step.between("one.a", "one.b")
NEXT = Mark({"one.d": 2, "one.a": -1})
NO_TRIPLES = NO_RATIOS + ("abc", (1, 2), [1, 2, 3, 4], (1, 2, None), [True, 1, 1], {0: 1, 1: 2, 2: 3}, 3)


class FormsTest(unittest.TestCase, Checks):
    def test_example(self):
        side, away = form_at(form_of(ONE, SIDE), SCENE), form_at(form_of(ONE, FAR), SCENE)
        found = [side, away, product(side, away, EYE), product(away, away, EYE),
                 place_at(form_at(form_of(ONE, NEXT), SCENE))]
        self.assertEqual(found, [(6, 0, 0), (6, 6, 2), 0, 36, (Ratio(12, 5), Ratio(12, 5))])
        self.all_ratios([*side, *away, product(side, away, EYE), *found[4]])

    def test_form_of(self):
        self.assertEqual([str(row) for row in form_of(ONE, TILE)],
                         ["one.b -6 one.c 4 one.d -2", "one.c 2 one.d -2", "one.a 1 one.b -1 one.c 1 one.d -1"])
        self.assertEqual([str(row) for row in form_of(picture=ONE, value=NEXT)],
                         ["one.d 4", "one.d 4", "one.a -1 one.d 2"])
        self.assertIs(type(form_of(ONE, NEXT)), tuple)
        for value, form in ((Step.right_of("one"), (1, 0, 0)), (Step.up_of("one"), (0, 1, 0))):
            self.assertEqual(form_of(ONE, value), form)
            self.assertEqual([type(number) for number in form_of(ONE, value)], [int] * 3)

    def test_form_of_errors(self):
        for value in (None, True, "one", {}, Odd(), TILE):
            self.bad(BadPicture, "picture", form_of, value, None)
        for value in (None, True, 3, "one.a 1", {"one.a": 1}, Odd(), ONE, (1, 0, 0)):
            self.bad(BadStep, "value", form_of, ONE, value)
        self.raised(NoPicture, {"name": "two"}, form_of, ONE, Step.right_of("two"))
        self.raised(NoPicture, {"name": "two"}, form_of, ONE, Step.up_of("two"))
        self.raised(NoLabel, {"name": "one.x"}, form_of, ONE, Step({"one.z": 1, "one.x": 1, "one.a": -2}))
        self.raised(NoLabel, {"name": "two.a"}, form_of, ONE, Mark({"two.a": 2, "two.b": -1}))

    def test_forms_add_up(self):
        both = form_of(ONE, TILE + FAR)
        self.assertEqual(both, tuple(one + other for one, other in zip(form_of(ONE, TILE), form_of(ONE, FAR))))

    def test_form_at(self):
        self.assertEqual(form_at(form_of(ONE, TILE), SCENE), (0, 0, 0))
        self.assertEqual(form_at([1, Ratio(1, 2), 0], SCENE), (1, Ratio(1, 2), 0))
        self.all_ratios(form_at(form_of(ONE, Step.right_of("one")), SCENE))
        self.assertIs(type(form_at([1, 2, 3], SCENE)), tuple)
        self.assertEqual(form_at(form=[Row({}), Row({"one.a": 2}), Row({})], scene=SCENE), (0, 2, 0))

    def test_form_at_errors(self):
        rows = form_of(ONE, TILE)
        for value in NO_TRIPLES + (rows[:2], rows + rows[:1], (rows[0], rows[1], 1), (1, 2, Row({})), ()):
            self.bad(BadRow, "form", form_at, value, None)
        for value in (None, {"one.a": 1}, "one.a 1", Odd(), ONE):
            self.bad(BadScene, "scene", form_at, rows, value)
            self.bad(BadScene, "scene", form_at, (1, 0, 0), value)
        less = Scene({"one.d": 1, "one.a": 1})
        self.raised(NoLabel, {"name": "one.b"}, form_at, rows[::-1], less)
        mixed = (Row({"two.a": 1}), Row({"one.z": 1}), Row({"one.c": 1}))
        self.raised(NoLabel, {"name": "one.c"}, form_at, mixed, less)

    def test_space(self):
        self.assertEqual([in_space((6, 6, 2), EYE), in_space(numbers=[0, 0, Ratio(1, 2)], eye=EYE)],
                         [(0, 4, 2), (Ratio(-3, 2), Ratio(-1, 2), Ratio(1, 2))])
        self.all_ratios(in_space((6, 6, 2), EYE))
        self.assertEqual(placed(ONE, SCENE, "one.d", EYE), (-3, 3, 3))
        self.assertEqual(placed(picture=ONE, scene=SCENE, label="one.b", eye=EYE), (3, -1, 1))
        self.all_ratios(placed(ONE, SCENE, "one.d", EYE))

    def test_product_is_that_of_space(self):
        source = random.Random(11)
        for _ in range(40):
            one, other = [[Ratio(source.randint(-5, 5), source.randint(1, 3)) for _ in range(3)] for _ in range(2)]
            (x1, y1, z1), (x2, y2, z2) = in_space(one, EYE), in_space(other, EYE)
            wanted = value_of(x1) * value_of(x2) + value_of(y1) * value_of(y2) + 5 * value_of(z1) * value_of(z2)
            self.assertEqual(value_of(product(one, other, EYE)), wanted)

    def test_carried_pictures_keep_products(self):
        carried = ((ONE.moved(1, Ratio(1, 2)), EYE.moved(1, Ratio(1, 2)), 1), (ONE.turned(), EYE.turned(), 1),
                   (ONE.mirrored(), EYE.mirrored(), 1), (ONE.enlarged(3), EYE.enlarged(3), 9))
        for one, other in ((SIDE, FAR), (FAR, FAR), (FAR, Step.between("one.b", "one.c"))):
            before = product(form_at(form_of(ONE, one), SCENE), form_at(form_of(ONE, other), SCENE), EYE)
            for picture, eye, times in carried:
                forms = [form_at(form_of(picture, step), SCENE) for step in (one, other)]
                self.assertEqual(product(forms[0], forms[1], eye), before * times)

    def test_place_at(self):
        self.assertEqual([place_at((3, -1, 2)), place_at([1, 1, 0]), place_at(numbers=(1, 1, -2))],
                         [(Ratio(3, 2), Ratio(-1, 2)), None, None])
        self.all_ratios(place_at((4, 2, 2)))

    def test_number_errors(self):
        for value in NO_TRIPLES:
            self.bad(BadNumber, "numbers", in_space, value, None)
            self.bad(BadNumber, "one", product, value, None, None)
            self.bad(BadNumber, "other", product, (1, 2, 3), value, None)
            self.bad(BadNumber, "numbers", place_at, value)
        for value in (None, (3, 1, 15), "3 1 15", Odd()):
            self.bad(BadEye, "eye", in_space, (1, 2, 3), value)
            self.bad(BadEye, "eye", product, (1, 2, 3), (1, 2, 3), value)
            self.bad(BadEye, "eye", placed, ONE, SCENE, "one.a", value)

    def test_placed_errors(self):
        for value in (None, "one", Odd()):
            self.bad(BadPicture, "picture", placed, value, None, None, None)
            self.bad(BadScene, "scene", placed, ONE, value, None, None)
        for label in NO_LABELS + ("one.e", "two.a"):
            self.raised(NoLabel, {"name": label}, placed, ONE, SCENE, label, None)
        less = Scene({"one.a": 1})
        self.bad(BadEye, "eye", placed, ONE, less, "one.b", None)
        self.raised(NoLabel, {"name": "one.b"}, placed, ONE, less, "one.b", EYE)


if __name__ == "__main__":
    unittest.main()
