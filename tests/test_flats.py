"""Eye rows and flats: sums, ranks, reduced rows, weights, texts."""

import random
import unittest
from fractions import Fraction

from alleyes.errors import BadEye, BadEyeRow, BadFlat, BadNumber
from alleyes.eyes import Eye
from alleyes.flats import EyeRow, Flat, product_row
from alleyes.forms import product
from alleyes.ratios import Ratio
from tests.right_flats import adds_up, four
from tests.support import NO_LISTS, NO_RATIOS, NO_TEXTS, Checks, Odd, value_of

SQUARE_ON, EVEN = EyeRow(-1, 0, 0, 3), EyeRow(6, 6, -1, -9)
HALF = Flat([SQUARE_ON, EVEN])
CORNER = Flat([EyeRow(-4, 0, 1, 0), EyeRow(-1, -2, 1, 0), EyeRow(-5, -2, 1, 4)])
OVER = Eye(3, 1, 15)
ONE_ROW, NOTHING = EyeRow(0, 0, 0, 1), EyeRow(0, 0, 0, 0)


def plain_rank(lines):
    """The rank of lists of numbers, reckoned in Fractions."""
    lines, rank = [[Fraction(number) for number in line] for line in lines], 0
    while lines:
        head = lines.pop()
        leads = [at for at, number in enumerate(head) if number]
        if leads:
            rank += 1
            for line in lines:
                times = line[leads[0]] / head[leads[0]]
                line[:] = [number - times * other for number, other in zip(line, head)]
    return rank


def random_ratio(source):
    return Ratio(source.randint(-3, 3), source.choice([1, 1, 1, 2, 3]))


def random_line(source, eye=None):
    """A random line, 0 at the eye if one is wanted."""
    row = EyeRow(*[source.choice([0, random_ratio(source)]) for _ in range(3)], random_ratio(source))
    return row if eye is None else row - EyeRow(0, 0, 0, row.at(eye))


def random_eye(source):
    a, b = random_ratio(source), random_ratio(source)
    return Eye(a, b, a * a + b * b + Ratio(source.randint(1, 5), source.randint(1, 5)))


def random_flat(source):
    """A flat of up to four lines, by half of all chances with an eye."""
    eye = random_eye(source) if source.random() < 0.5 else None
    return Flat([random_line(source, eye) for _ in range(source.randint(0, 4))])


class EyeRowsTest(unittest.TestCase, Checks):
    def test_attributes(self):
        row = EyeRow(a=1, b=Ratio(-1, 2), c=0, g=3)
        self.assertEqual([row.a, row.b, row.c, row.g, row.left], [1, Ratio(-1, 2), 0, 3, (1, Ratio(-1, 2), 0)])
        self.all_ratios([row.a, row.b, row.c, row.g, *row.left])
        self.assertEqual([row.is_nothing, NOTHING.is_nothing, ONE_ROW.is_nothing, EyeRow(0, 0, 1, 0).is_nothing],
                         [False, True, False, False])
        for value in NO_RATIOS:
            self.bad(BadEyeRow, "a", EyeRow, value, None, None, None)
            self.bad(BadEyeRow, "b", EyeRow, 0, value, None, None)
            self.bad(BadEyeRow, "c", EyeRow, 0, 0, value, None)
            self.bad(BadEyeRow, "g", EyeRow, 0, 0, 0, value)

    def test_at(self):
        self.assertEqual([EVEN.at(OVER), SQUARE_ON.at(eye=OVER), EyeRow(1, 2, 3, 4).at(OVER), ONE_ROW.at(OVER)],
                         [0, 0, 54, 1])
        self.all_ratios([EVEN.at(OVER)])
        for value in (None, (3, 1, 15), "3 1 15", Odd()):
            self.bad(BadEye, "eye", EVEN.at, value)

    def test_sums(self):
        self.assertEqual([str(EVEN + SQUARE_ON), str(EVEN - SQUARE_ON), str(-EVEN), str(EVEN * Ratio(1, 3)), str(EVEN * 0)],
                         ["5 6 -1 -6", "7 6 -1 -12", "-6 -6 1 9", "2 2 -1/3 -3", "0 0 0 0"])
        self.assertEqual([str(SQUARE_ON - EVEN), str(SQUARE_ON + EVEN)], ["-7 -6 1 12", "5 6 -1 -6"])
        self.assertEqual(str(EVEN), "6 6 -1 -9")
        for value in (None, 0, (0, 0, 0, 0), "0 0 0 0", Odd(), OVER, True):
            self.bad(BadEyeRow, "other", lambda: EVEN + value)
            self.bad(BadEyeRow, "other", lambda: EVEN - value)
        for value in NO_RATIOS + (EVEN,):
            self.bad(BadNumber, "ratio", lambda: EVEN * value)

    def test_equality(self):
        self.assertEqual([EVEN == EyeRow(6, Ratio(6), -1, -9), EVEN != SQUARE_ON, EVEN != EVEN], [True, True, False])
        for other in ((5, 6, -1, -9), (6, 5, -1, -9), (6, 6, 0, -9), (6, 6, -1, 9)):
            self.assertIs(EVEN == EyeRow(*other), False)
        for value in (None, (6, 6, -1, -9), "6 6 -1 -9", Odd()):
            self.assertEqual([EVEN == value, EVEN != value], [False, True])

    def test_texts(self):
        for text in ("6 6 -1 -9", "0 0 0 0", "1/2 -1/3 0 7"):
            self.assertEqual(str(EyeRow.read(text)), text)
        self.assertEqual(EyeRow.read("6 6 -1 -9"), EVEN)
        for text, word in (("", 0), ("1", 1), ("1 2 3", 3), ("x 2 3 4", 0), ("1 x 3 4", 1), ("1 2 x 4", 2), ("1 2 3 x", 3),
                           ("1 2 3 4 5", 4), ("1 2 3 4 ", 4), ("1  3 4", 1), ("1 2 3 2/2", 3), ("1 2 3 " + "1" * 61, 3)):
            self.bad_text(word, EyeRow.read, text)
        for value in NO_TEXTS:
            self.bad_text(0, EyeRow.read, value)

    def test_product_row(self):
        self.assertEqual([product_row((1, 0, 0), (3, 3, 1)), product_row(one=[0, 0, 1], other=(0, 0, 1))],
                         [SQUARE_ON, EyeRow(0, 0, 1, 0)])
        source = random.Random(5)
        for _ in range(40):
            one, other = [[random_ratio(source) for _ in range(3)] for _ in range(2)]
            eye = random_eye(source)
            self.assertEqual(product_row(one, other).at(eye), product(one, other, eye))
        for value in NO_RATIOS + ((1, 2), [1, 2, 3, 4], (1, 2, None), 3, "abc"):
            self.bad(BadNumber, "one", product_row, value, None)
            self.bad(BadNumber, "other", product_row, (1, 2, 3), value)


class FlatsTest(unittest.TestCase, Checks):
    def test_example(self):
        self.assertEqual([product_row((1, 0, 0), (3, 3, 1)) == SQUARE_ON, HALF.rank, [str(row) for row in HALF.reduced],
                          Eye(3, 1, 15) in HALF, OVER in CORNER], [True, 2, ["1 0 0 -3", "0 1 -1/6 3/2"], True, False])
        self.assertEqual([HALF.weights_of(EyeRow(0, 6, -1, 9)), EVEN.at(OVER)], [(6, 1), 0])

    def test_attributes(self):
        lines = [SQUARE_ON]
        flat = Flat(lines=lines)
        lines.append(EVEN)
        self.assertEqual([flat.lines, len(flat), len(HALF), Flat(()).lines], [(SQUARE_ON,), 1, 2, ()])
        for value in NO_LISTS + ([None], [SQUARE_ON, (1, 2, 3, 4)], SQUARE_ON):
            self.bad(BadFlat, "lines", Flat, value)
            self.bad(BadFlat, "lines", HALF.narrowed, value)
        self.assertEqual([HALF.narrowed([ONE_ROW]).lines, HALF.narrowed(lines=()) == HALF, len(HALF)],
                         [(SQUARE_ON, EVEN, ONE_ROW), True, 2])

    def test_ranks(self):
        for lines, rank in (([], 0), ([NOTHING], 0), ([ONE_ROW], 0), ([SQUARE_ON], 1), ([SQUARE_ON, SQUARE_ON * 2], 1),
                            ([SQUARE_ON, SQUARE_ON + ONE_ROW], 1), ([SQUARE_ON, EVEN, SQUARE_ON + EVEN], 2),
                            (CORNER.lines, 3), ([*CORNER.lines, ONE_ROW, EVEN], 3)):
            self.assertEqual(Flat(lines).rank, rank)

    def test_reduced(self):
        self.assertEqual([Flat([]).reduced, Flat([NOTHING]).reduced, Flat([ONE_ROW * 3]).reduced], [(), (), (ONE_ROW,)])
        self.assertEqual(Flat([SQUARE_ON, SQUARE_ON + ONE_ROW]).reduced, (EyeRow(1, 0, 0, 0), ONE_ROW))
        self.assertEqual([str(row) for row in CORNER.reduced], ["1 0 0 -1", "0 1 0 -3/2", "0 0 1 -4"])

    def test_many_flats(self):
        source = random.Random(8)
        for _ in range(200):
            flat = random_flat(source)
            found, lines = flat.reduced, [four(line) for line in flat.lines]
            self.assertEqual(flat.rank, plain_rank([line[:3] for line in lines]))
            self.assertEqual(len(found), plain_rank(lines))
            leads = [[at for at, number in enumerate(four(row)) if number][0] for row in found]
            self.assertEqual(leads, sorted(leads))
            for row, lead in zip(found, leads):
                self.assertEqual([four(row)[lead], [four(other)[lead] for other in found if other != row]],
                                 [1, [0] * (len(found) - 1)])
                self.assertEqual(plain_rank([*lines, four(row)]), len(found))
            row = random_line(source)
            weights = flat.weights_of(row)
            self.assertIs(weights is None, plain_rank([*lines, four(row)]) > len(found))
            if weights is not None:
                self.assertIs(adds_up(flat.lines, weights, four(row)), True)
                self.all_ratios(weights)
            self.assertIs(adds_up(flat.lines, flat.weights_of(NOTHING), [0] * 4), True)

    def test_eyes_in_flats(self):
        self.assertEqual([OVER in HALF, OVER in Flat([]), OVER in Flat([ONE_ROW]), Eye(3, 1, 16) in HALF],
                         [True, True, False, False])
        for value in (None, (3, 1, 15), "3 1 15", Odd()):
            self.assertIs(value in HALF, False)

    def test_equality(self):
        self.assertEqual([HALF == Flat((SQUARE_ON, EVEN)), HALF == Flat([EVEN, SQUARE_ON]), HALF == Flat([SQUARE_ON]),
                          HALF != HALF, Flat([]) == Flat([])], [True, False, False, False, True])
        for value in (None, HALF.lines, Odd()):
            self.assertEqual([HALF == value, HALF != value], [False, True])

    def test_weights_errors(self):
        for value in (None, 0, (1, 2, 3, 4), "0 0 0 0", Odd()):
            self.bad(BadEyeRow, "row", HALF.weights_of, value)
        self.assertEqual([Flat([]).weights_of(row=NOTHING), Flat([]).weights_of(EVEN), HALF.weights_of(ONE_ROW)],
                         [(), None, None])

    def test_answers_do_not_change(self):
        self.assertIs(HALF.table, HALF.table)
        flat = Flat([EVEN, SQUARE_ON])
        self.assertEqual([flat.reduced, flat.rank, flat.reduced, flat.rank], [HALF.reduced, 2, HALF.reduced, 2])
        self.assertEqual(value_of(flat.reduced[1].g), Fraction(3, 2))


if __name__ == "__main__":
    unittest.main()
