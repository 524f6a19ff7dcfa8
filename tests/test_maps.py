"""Maps: beside sums in Fractions of their own."""

import random
import unittest
from fractions import Fraction

from alleyes.errors import BadNumber
from alleyes.maps import map_back, map_behind, map_taking, mapped
from alleyes.ratios import Ratio
from alleyes.rows import Row
from tests.painting import det, direction, dot, ratio_of
from tests.support import NO_INTEGERS, NO_LISTS, NO_RATIOS, Checks, value_of

SAME = ((1, 0, 0), (0, 1, 0), (0, 0, 1))
TURN = [[0, 0, 2], (2, 0, 0), [0, 2, 0]]
MIRROR = ((1, 0, 0), (0, 1, 0), (0, 0, -1))
FLAT = ((1, 0, 0), (0, 1, 0), (1, 1, 0))
ROWS = (Row({"one.a": 1}), Row({"one.b": 2}), Row({}))


def random_triples(source):
    return [[ratio_of(Fraction(source.randint(-4, 4), source.choice([1, 2, 3]))) for _ in range(3)] for _ in range(3)]


def random_map(source):
    while True:
        lines = [[source.randint(-4, 4) for _ in range(3)] for _ in range(3)]
        if det(*lines) > 0:
            return lines


def values_of(triple):
    return [value_of(number) for number in triple]


def is_kept_map(lines):
    """Whether it is a tuple of three tuples of integers without a common divisor, of a determinant above 0."""
    if type(lines) is not tuple or not all(type(line) is tuple and len(line) == 3 for line in lines) or len(lines) != 3:
        return False
    numbers = [number for line in lines for number in line]
    return all(type(number) is int for number in numbers) and direction(numbers) == tuple(numbers) and det(*lines) > 0


class MapsTest(unittest.TestCase, Checks):
    def test_mapped(self):
        self.assertEqual(mapped(TURN, [1, Ratio(1, 2), 3]), (6, 2, 1))
        self.all_ratios(mapped(SAME, (1, 2, 3)))
        self.assertEqual(mapped(TURN, list(ROWS)), (Row({}), Row({"one.a": 2}), Row({"one.b": 4})))
        self.assertIs(type(mapped(lines=SAME, form=list(ROWS))), tuple)
        source = random.Random(1)
        for _ in range(40):
            lines, triple = random_map(source), random_triples(source)[0]
            self.assertEqual(values_of(mapped(lines, triple)), [dot(line, values_of(triple)) for line in lines])
            rows = mapped(lines, [Row({"one.a": triple[0]}), Row({"one.a": triple[1], "one.b": 1}), Row({"one.a": triple[2]})])
            self.assertEqual([row.ratio_of("one.a") for row in rows], list(mapped(lines, triple)))
            self.assertEqual([row.ratio_of("one.b") for row in rows], [line[1] for line in lines])

    def test_behind_and_back(self):
        source = random.Random(2)
        for _ in range(60):
            one, other, triple = random_map(source), random_map(source), random_triples(source)[0]
            behind, back = map_behind(one, other), map_back(one)
            self.assertTrue(is_kept_map(behind) and is_kept_map(back))
            if any(triple):
                both, there = mapped(one, mapped(other, triple)), mapped(behind, triple)
                self.assertEqual(direction(values_of(both)), direction(values_of(there)))
                again = mapped(back, mapped(one, triple))
                self.assertEqual(direction(values_of(again)), direction(values_of(triple)))
            self.assertEqual(map_behind(one, map_back(one)), SAME)
        self.assertEqual([map_back(TURN), map_back(map_back(TURN)), map_behind(TURN, TURN)],
                         [((0, 1, 0), (0, 0, 1), (1, 0, 0)), ((0, 0, 1), (1, 0, 0), (0, 1, 0)), ((0, 1, 0), (0, 0, 1), (1, 0, 0))])

    def test_taking(self):
        source = random.Random(3)
        found = 0
        for _ in range(120):
            others, ones = random_triples(source), random_triples(source)
            lines = map_taking(others, ones)
            signs = [det(*[values_of(triple) for triple in triples]) for triples in (others, ones)]
            self.assertEqual(lines is None, signs[0] * signs[1] <= 0)
            if lines is None:
                continue
            found += 1
            self.assertTrue(is_kept_map(lines))
            factors = set()
            for triple, wanted in zip(others, ones):
                for number, other in zip(mapped(lines, triple), wanted):
                    if value_of(other):
                        factors.add(value_of(number) / value_of(other))
                    else:
                        self.assertEqual(number, 0)
            self.assertEqual([len(factors), min(factors) > 0], [1, True])
        self.assertGreater(found, 30)
        self.assertEqual(map_taking(MIRROR, MIRROR), SAME)
        self.assertEqual(map_taking(others=((2, 0, 0), (0, 2, 0), (0, 0, 2)), ones=SAME), SAME)
        for pair in ((SAME, MIRROR), (MIRROR, SAME), (FLAT, SAME), (SAME, FLAT), (FLAT, FLAT)):
            self.assertIsNone(map_taking(*pair))

    def test_wrong_maps(self):
        wrong = [*NO_LISTS, [], SAME[:2], (*SAME, (1, 1, 1)), MIRROR, FLAT, ((1, 0), (0, 1), (0, 0)), ((1, 0, 0, 0),) * 3,
                 (ROWS, ROWS, ROWS), ((0, 0, 0),) * 3, {0: SAME}]
        wrong += [(SAME[0], SAME[1], (0, 0, value)) for value in NO_INTEGERS] + [(SAME[0], SAME[1], value) for value in NO_LISTS]
        for value in wrong:
            self.bad(BadNumber, "lines", mapped, value, None)
            self.bad(BadNumber, "lines", map_back, value)
            self.bad(BadNumber, "one", map_behind, value, None)
            self.bad(BadNumber, "other", map_behind, SAME, value)

    def test_wrong_triples(self):
        wrong = [*NO_LISTS, [], SAME[:2], (*SAME, (1, 1, 1)), ((1, 0), (0, 1), (0, 0)), (ROWS, ROWS, ROWS)]
        wrong += [(SAME[0], (0, value, 0), SAME[2]) for value in NO_RATIOS]
        for value in wrong:
            self.bad(BadNumber, "others", map_taking, value, None)
            self.bad(BadNumber, "ones", map_taking, SAME, value)
        for value in [*NO_LISTS, [], (1, 2), (1, 2, 3, 4), ROWS[:2], (*ROWS, ROWS[0]), (1, 2, ROWS[0]), SAME,
                      *[(1, 2, number) for number in NO_RATIOS]]:
            self.bad(BadNumber, "form", mapped, SAME, value)


if __name__ == "__main__":
    unittest.main()
