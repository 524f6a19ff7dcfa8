"""Spans: ranks, reduced rows, rests, weights, solved values."""

import random
import unittest
from fractions import Fraction

from alleyes.errors import BadNumber, BadRow
from alleyes.ratios import Ratio
from alleyes.rows import Row
from alleyes.spans import free_of, rank_of, reduced, rest_of, solved, summed, weights_for
from tests.support import NO_LABELS, NO_LISTS, NO_RATIOS, Checks, total_of, value_of

LOW = Row({"one.b": -6, "one.c": 4, "one.d": -2})
HIGH = Row({"one.c": 2, "one.d": -2})
LAST = Row.read("one.a 1 one.b -1 one.c 1 one.d -1")
TILED = [LOW, HIGH, LAST]
NOTHING = Row({})


def plain_rank(rows):
    """The rank, reckoned in Fractions."""
    lines = [{label: value_of(ratio) for label, ratio in row.terms} for row in rows]
    rank = 0
    while lines:
        head = {label: number for label, number in lines.pop().items() if number}
        if not head:
            continue
        rank += 1
        lead = min(head)
        for line in lines:
            times = line.get(lead, Fraction(0)) / head[lead]
            for label, number in head.items():
                line[label] = line.get(label, Fraction(0)) - times * number
    return rank


def random_rows(source, many, labels="abcd"):
    rows = []
    for _ in range(many):
        names = source.sample(labels, source.randint(0, len(labels)))
        rows.append(Row({"one." + name: Ratio(source.randint(-3, 3), source.randint(1, 3)) for name in names}))
    return rows


class SpansTest(unittest.TestCase, Checks):
    def test_example(self):
        self.assertEqual([str(row) for row in reduced(TILED)],
                         ["one.a 1 one.d -1/3", "one.b 1 one.d -1/3", "one.c 1 one.d -1"])
        self.assertEqual([rank_of(TILED), free_of(TILED, ["one.d", "one.a"])], [3, ("one.d",)])
        self.assertEqual(str(rest_of(TILED, Row({"one.a": 3, "one.c": -1}))), "0")
        self.assertEqual(weights_for(TILED, Row({"one.b": -3, "one.c": 1})), (Ratio(1, 2), Ratio(-1, 2), 0))
        self.assertEqual(solved(TILED, {"one.d": 3}), {"one.a": 1, "one.b": 1, "one.c": 3, "one.d": 3})

    def test_no_rows(self):
        self.assertEqual([rank_of([]), reduced(()), summed([], []), weights_for([], NOTHING), weights_for([], LOW)],
                         [0, (), NOTHING, (), None])
        self.assertEqual([rest_of([], LOW), free_of([], ["one.b", "one.a"]), solved([], {"one.a": 2}), solved([], {})],
                         [LOW, ("one.a", "one.b"), {"one.a": 2}, {}])

    def test_rows_told_twice_and_sums(self):
        rows = [LOW, LOW, HIGH, LOW + HIGH, NOTHING, LOW * Ratio(-1, 3)]
        self.assertEqual([rank_of(rows), rank_of([NOTHING]), rank_of([LOW, LOW])], [2, 0, 1])
        self.assertEqual(reduced(rows), reduced([HIGH, LOW]))
        self.assertEqual([str(row) for row in reduced(rows)], ["one.b 1 one.d -1/3", "one.c 1 one.d -1"])
        weights = weights_for(rows, LOW - HIGH)
        self.assertEqual([len(weights), summed(rows, weights)], [6, LOW - HIGH])
        self.assertEqual(weights_for([NOTHING, NOTHING], NOTHING), (0, 0))

    def test_reduced_rows_ascend_whatever_the_order(self):
        rows = [Row.read("one.c 2 one.d 1"), Row.read("one.b 1 one.c 1"), Row.read("one.a 1 one.b 1 one.c 1")]
        wanted = ["one.a 1", "one.b 1 one.d -1/2", "one.c 1 one.d 1/2"]
        for order in ((0, 1, 2), (2, 1, 0), (1, 2, 0), (2, 0, 1)):
            self.assertEqual([str(row) for row in reduced([rows[at] for at in order])], wanted)

    def test_many_rows(self):
        source = random.Random(7)
        for _ in range(150):
            rows = random_rows(source, source.randint(0, 5))
            found = reduced(rows)
            self.assertEqual(rank_of(rows), plain_rank(rows))
            self.assertEqual(len(found), plain_rank(rows))
            leads = [row.labels[0] for row in found]
            self.assertEqual(leads, sorted(leads))
            for row in found:
                self.assertEqual(row.terms[0][1], 1)
                self.assertEqual([label for label in row.labels if label in leads], [row.labels[0]])
                self.assertEqual(plain_rank([*rows, row]), len(found))
                self.all_ratios([ratio for _, ratio in row.terms])
            self.check_row_of(rows, found, leads, random_rows(source, 1, "abcde")[0])

    def check_row_of(self, rows, found, leads, row):
        rest = rest_of(rows, row)
        self.assertEqual([label for label in rest.labels if label in leads], [])
        self.assertEqual(plain_rank([*rows, row - rest]), len(found))
        weights = weights_for(rows, row)
        self.assertIs(weights is None, not rest.is_nothing)
        if weights is not None:
            self.assertIs(type(weights), tuple)
            self.all_ratios(weights)
            self.assertEqual([len(weights), summed(rows, weights)], [len(rows), row])
        everything = ["one." + name for name in "edcba"]
        self.assertEqual(free_of(rows, everything), tuple(sorted(set(everything) - set(leads))))
        values = {label: at + 2 for at, label in enumerate(everything) if label not in leads}
        full = solved(rows, values)
        self.assertEqual(list(full), sorted([*values, *leads]))
        self.assertEqual([full[label] for label in values], list(values.values()))
        self.assertEqual([total_of(row, full) for row in rows], [0] * len(rows))
        self.all_ratios(full.values())

    def test_summed(self):
        self.assertEqual(str(summed([LOW, HIGH], [Ratio(1, 2), -1])), "one.b -3 one.d 1")
        self.assertEqual(str(summed((LOW, LOW), (1, -1))), "0")
        for value in NO_LISTS + ([1], [1, 2, 3], ()):
            self.bad(BadNumber, "weights", summed, [LOW, HIGH], value)
        for value in NO_RATIOS:
            self.bad(BadNumber, "weights", summed, [LOW, HIGH], [1, value])

    def test_wrong_rows(self):
        calls = (rank_of, reduced, lambda rows: rest_of(rows, None), lambda rows: summed(rows, None),
                 lambda rows: weights_for(rows, None), lambda rows: free_of(rows, None),
                 lambda rows: solved(rows, None))
        for call in calls:
            for value in NO_LISTS + ([None], [LOW, "0"], (LOW, 1), LOW):
                self.bad(BadRow, "rows", call, value)
        for value in (None, 0, "0", [], {}, True):
            self.bad(BadRow, "row", rest_of, [LOW], value)
            self.bad(BadRow, "row", weights_for, [LOW], value)

    def test_free_of(self):
        self.assertEqual(free_of(TILED, ("one.z", "one.d", "one.b")), ("one.d", "one.z"))
        self.assertEqual([free_of(TILED, []), free_of(rows=[LOW], labels=["one.b"])], [(), ()])
        for value in NO_LISTS + (["one.a", "one.a"],):
            self.bad(BadRow, "labels", free_of, TILED, value)
        for label in NO_LABELS:
            self.bad(BadRow, "labels", free_of, TILED, ["one.a", label])

    def test_solved(self):
        values = {"two.x": 5, "one.d": Ratio(3, 2)}
        found = solved(TILED, values)
        self.assertEqual(list(found.items()), [("one.a", Ratio(1, 2)), ("one.b", Ratio(1, 2)), ("one.c", Ratio(3, 2)),
                                               ("one.d", Ratio(3, 2)), ("two.x", 5)])
        found["one.a"] = 9
        self.assertEqual(solved(TILED, values)["one.a"], Ratio(1, 2))
        self.assertEqual(values, {"two.x": 5, "one.d": Ratio(3, 2)})
        for value in NO_LISTS[:3] + ([], {}, {"one.a": 1, "one.d": 1}, {"one.z": 1}, {"one.d": 1, "d": 1}, {3: 1}):
            self.bad(BadNumber, "values", solved, TILED, value)
        for ratio in NO_RATIOS:
            self.bad(BadNumber, "values", solved, TILED, {"one.d": ratio})
            self.bad(BadNumber, "values", solved, TILED, {"one.d": 1, "one.z": ratio})

    def test_what_is_passed_stays(self):
        rows, labels, weights = [HIGH, LOW], ["one.d", "one.a"], [1, 2]
        rank_of(rows), reduced(rows), rest_of(rows, LAST), weights_for(rows, LOW)
        free_of(rows, labels), summed(rows, weights), solved(rows, {"one.d": 1})
        self.assertEqual([rows, labels, weights], [[HIGH, LOW], ["one.d", "one.a"], [1, 2]])

    def test_equal_answers(self):
        rows = [LOW, LOW, HIGH, HIGH]
        self.assertEqual(weights_for(rows, LOW + HIGH), weights_for(tuple(rows), LOW + HIGH))


if __name__ == "__main__":
    unittest.main()
