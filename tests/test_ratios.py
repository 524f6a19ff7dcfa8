"""Ratios: making, reckoning, comparing, texts."""

import random
import unittest
from fractions import Fraction

from alleyes.errors import BadRatio
from alleyes.ratios import Ratio, added, greatest_of, is_ratio, least_of
from tests.support import NO_INTEGERS, NO_LISTS, NO_RATIOS, NO_TEXTS, Checks, Odd, value_of


class RatiosTest(unittest.TestCase, Checks):
    def test_example(self):
        found = [Ratio(4, -6), Ratio(1, 2) + 1, Ratio(3).over(2), Ratio(1, 3).compared(Ratio(1, 2)), Ratio(2) == 2]
        self.assertEqual(repr(found), "[-2/3, 3/2, 3/2, -1, True]")

    def test_lowest_terms(self):
        for top, bottom, wanted in ((4, -6, (-2, 3)), (-4, -6, (2, 3)), (0, -5, (0, 1)), (0, 7, (0, 1)),
                                    (6, 3, (2, 1)), (7, 1, (7, 1)), (-1, 1, (-1, 1)), (10 ** 70, 10 ** 69, (10, 1))):
            ratio = Ratio(top, bottom)
            self.assertEqual((ratio.top, ratio.bottom), wanted)
            self.assertIs(type(ratio.top), int)
            self.assertIs(type(ratio.bottom), int)
        self.assertEqual((Ratio(5).top, Ratio(5).bottom), (5, 1))
        self.assertEqual(Ratio(bottom=4, top=2), Ratio(1, 2))

    def test_wrong_parts(self):
        for value in NO_INTEGERS:
            self.bad(BadRatio, "top", Ratio, value)
            self.bad(BadRatio, "top", Ratio, value, 0)
            self.bad(BadRatio, "bottom", Ratio, 1, value)
        self.bad(BadRatio, "bottom", Ratio, 1, 0)
        self.bad(BadRatio, "bottom", Ratio, 0, 0)

    def test_properties(self):
        self.assertEqual([Ratio(n, 3).sign for n in (-4, 0, 5)], [-1, 0, 1])
        self.assertEqual([type(Ratio(n, 3).sign) for n in (-4, 0, 5)], [int] * 3)
        self.assertEqual([Ratio(6, 3).is_whole, Ratio(5, 3).is_whole, Ratio(0, 3).is_whole], [True, False, True])
        self.assertEqual([bool(Ratio(0)), bool(Ratio(-1, 9))], [False, True])

    def test_reckoning(self):
        source = random.Random(3)
        for _ in range(300):
            numbers = [source.randint(-9, 9) for _ in range(2)]
            one, other = Ratio(numbers[0], source.randint(1, 9)), Ratio(numbers[1], source.randint(1, 9))
            left, right = value_of(one), value_of(other)
            self.assertEqual(value_of(one + other), left + right)
            self.assertEqual(value_of(one - other), left - right)
            self.assertEqual(value_of(one * other), left * right)
            self.assertEqual(value_of(-one), -left)
            self.assertEqual(value_of(abs(one)), abs(left))
            self.assertEqual(one.compared(other), (left > right) - (left < right))
            self.assertIs(one.is_below(other), left < right)
            self.assertIs(one == other, left == right)
            self.assertIs(one != other, left != right)
            if other:
                self.assertEqual(value_of(one.over(other)), left / right)
            self.all_ratios([one + 1, one - 1, one * 2, one.over(3), one + other, -one, abs(one)])

    def test_integers_at_the_right(self):
        half = Ratio(1, 2)
        self.assertEqual([half + 1, half - 1, half * 4, half.over(2)],
                         [Ratio(3, 2), Ratio(-1, 2), Ratio(2), Ratio(1, 4)])
        self.assertEqual([half.compared(0), half.compared(1), Ratio(1).compared(1)], [1, -1, 0])
        self.assertEqual([half.is_below(1), half.is_below(0), Ratio(1).is_below(1)], [True, False, False])

    def test_wrong_others(self):
        half = Ratio(1, 2)
        for value in NO_RATIOS:
            for call in (lambda: half + value, lambda: half - value, lambda: half * value, lambda: half.over(value),
                         lambda: half.compared(value), lambda: half.is_below(value)):
                self.bad(BadRatio, "other", call)
        self.bad(BadRatio, "zero", half.over, 0)
        self.bad(BadRatio, "zero", half.over, Ratio(0))
        self.bad(BadRatio, "zero", half.over, other=0)

    def test_no_other_operators(self):
        half = Ratio(1, 2)
        for call in (lambda: half < 1, lambda: half >= half, lambda: half / 2, lambda: 1 + half, lambda: 2 * half,
                     lambda: 1 - half):
            with self.assertRaises(TypeError):
                call()

    def test_equality(self):
        self.assertEqual([Ratio(2) == 2, 2 == Ratio(2), Ratio(4, 2) == Ratio(2), Ratio(1, 2) == Ratio(2, 4)], [True] * 4)
        self.assertEqual([Ratio(1) == True, True == Ratio(1), Ratio(0) == False, False == Ratio(0)], [False] * 4)
        self.assertEqual([Ratio(1) != True, 2 != Ratio(2), Ratio(2) != 2, Ratio(1) != 2], [True, False, False, True])
        for value in (1.0, "1", None, Fraction(1), [1], Odd(), (1,)):
            self.assertIs(Ratio(1) == value, False)
            self.assertIs(Ratio(1) != value, True)

    def test_texts(self):
        for text, ratio in (("3", Ratio(3)), ("-3/2", Ratio(-3, 2)), ("0", Ratio(0)), ("1/7", Ratio(1, 7)),
                            ("-12", Ratio(-12)), ("9" * 60 + "/" + "1" + "0" * 59, Ratio(int("9" * 60), 10 ** 59))):
            self.assertEqual([str(ratio), repr(ratio)], [text, text])
            read = Ratio.read(text)
            self.assertEqual(read, ratio)
            self.assertIs(type(read), Ratio)

    def test_long_texts(self):
        self.assertEqual(str(Ratio(10 ** 5000 + 7)), "1" + "0" * 4999 + "7")
        self.assertEqual(str(Ratio(-10 ** 64, 3)), "-1" + "0" * 64 + "/3")
        self.assertEqual(str(Ratio(5 * 10 ** 130 + 10 ** 64)), "5" + "0" * 65 + "1" + "0" * 64)
        self.assertEqual(str(Ratio(1, 10 ** 4400)), "1/1" + "0" * 4400)
        self.assertEqual([str(Ratio(10 ** 64 - 1)), str(Ratio(1 - 10 ** 64))], ["9" * 64, "-" + "9" * 64])

    def test_texts_that_are_none(self):
        for text in ("", "4/2", "0/5", "-0", "+1", "3/1", "1/0", "-", "/", "1/", "/2", "1/2/3", "1/-2", "--1", "01",
                     "1/02", "-01", "1.0", "1_0", "\u00b2", "\uff11", "1\n", "a", "x" * 100000, "1" * 61, "1" * 100000,
                     "1/" + "1" * 61, "-" + "1" * 61, "0/1", "-1/-1", "1e3"):
            self.bad_text(0, Ratio.read, text)
        for text, word in ((" 1", 0), ("1 ", 1), ("1 2", 1), ("1  2", 1), ("x 2", 0), ("1/2 1/2 1", 1)):
            self.bad_text(word, Ratio.read, text)
        for value in NO_TEXTS:
            self.bad_text(0, Ratio.read, value)

    def test_sixty_digits(self):
        most = "1" * 60
        self.assertEqual(str(Ratio.read(most)), most)
        self.assertEqual(str(Ratio.read("-1/" + most)), "-1/" + most)

    def test_of(self):
        half = Ratio(1, 2)
        self.assertEqual([Ratio.of(half), Ratio.of(3), Ratio.of(value=0)], [half, Ratio(3), Ratio(0)])
        self.all_ratios([Ratio.of(3), Ratio.of(half)])
        for value in NO_RATIOS:
            self.bad(BadRatio, "value", Ratio.of, value)

    def test_is_ratio(self):
        self.assertEqual([is_ratio(value) for value in (Ratio(1, 2), 0, -10 ** 80)], [True] * 3)
        self.assertEqual([is_ratio(value) for value in NO_RATIOS], [False] * len(NO_RATIOS))

    def test_sums_and_extremes(self):
        ratios = [Ratio(1, 2), -3, Ratio(2, 3), 0]
        self.assertEqual([added(ratios), added(tuple(ratios)), added([]), added(())], [Ratio(-11, 6)] * 2 + [0, 0])
        self.assertEqual([least_of(ratios), greatest_of(tuple(ratios))], [-3, Ratio(2, 3)])
        self.assertEqual([least_of([5]), greatest_of([5]), least_of((2, 1)), greatest_of((1, 2))], [5, 5, 1, 2])
        self.all_ratios([added(ratios), added([]), least_of(ratios), greatest_of(ratios), least_of([5]), added([1])])
        self.assertEqual(ratios, [Ratio(1, 2), -3, Ratio(2, 3), 0])

    def test_wrong_lists(self):
        for call in (added, least_of, greatest_of):
            for value in NO_LISTS:
                self.bad(BadRatio, "ratios", call, value)
            for value in NO_RATIOS:
                self.bad(BadRatio, "ratios", call, [1, value])
                self.bad(BadRatio, "ratios", call, (value,))
        for call in (least_of, greatest_of):
            self.bad(BadRatio, "ratios", call, [])
            self.bad(BadRatio, "ratios", call, ())


if __name__ == "__main__":
    unittest.main()
