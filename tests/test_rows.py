"""Rows: terms, sums, values, texts."""

import unittest
from collections import defaultdict

from alleyes.errors import BadNumber, BadRow, NoLabel
from alleyes.ratios import Ratio
from alleyes.rows import Row
from tests.support import NO_LABELS, NO_RATIOS, NO_TEXTS, Checks, Odd

LOW = Row({"one.b": -6, "one.c": 4, "one.d": -2})
HIGH = Row({"one.c": 2, "one.d": -2})
LAST = Row.read("one.a 1 one.b -1 one.c 1 one.d -1")
NO_ROWS = (None, True, 0, "0", [], {}, Odd(), Ratio(1), ("one.a", 1))


class RowsTest(unittest.TestCase, Checks):
    def test_example(self):
        found = [str(LOW), str(HIGH * Ratio(1, 2)), str(HIGH - HIGH), LOW.ratio_of("one.c"),
                 LAST.at({"one.a": 1, "one.b": 1, "one.c": 3, "one.d": 3})]
        self.assertEqual(found, ["one.b -6 one.c 4 one.d -2", "one.c 1 one.d -1", "0", 4, 0])

    def test_terms(self):
        row = Row({"two.a": 1, "one.b": 0, "one.c": Ratio(-1, 2), "one1.a": Ratio(0), "one.a": 3})
        self.assertEqual(row.terms, (("one.a", 3), ("one.c", Ratio(-1, 2)), ("two.a", 1)))
        self.assertEqual(row.labels, ("one.a", "one.c", "two.a"))
        self.all_ratios([ratio for _, ratio in row.terms])
        self.assertEqual(Row({"one1.a": 1, "one.a": 1}).labels, ("one.a", "one1.a"))
        self.assertEqual([Row({}).terms, Row({"one.a": 0}).labels, Row(terms={}).is_nothing], [(), (), True])
        self.assertIs(LOW.is_nothing, False)

    def test_what_is_passed_is_copied(self):
        terms = {"one.b": 2, "one.a": 0}
        row = Row(terms)
        terms["one.b"] = 5
        self.assertEqual([str(row), terms], ["one.b 2", {"one.b": 5, "one.a": 0}])

    def test_wrong_terms(self):
        for value in (None, True, 3, "0", [], [("one.a", 1)], (), Odd(), LOW):
            self.bad(BadRow, "terms", Row, value)
        for label in NO_LABELS:
            if not isinstance(label, (list, dict)):
                self.bad(BadRow, "terms", Row, {label: 1})
                self.bad(BadRow, "terms", Row, {"one.a": 1, label: 0})
        for ratio in NO_RATIOS:
            self.bad(BadRow, "terms", Row, {"one.a": ratio})

    def test_ratio_of(self):
        self.assertEqual([LOW.ratio_of("one.b"), LOW.ratio_of("one.a"), LOW.ratio_of(label="two.z")], [-6, 0, 0])
        self.all_ratios([LOW.ratio_of("one.b"), LOW.ratio_of("two.z")])
        for label in NO_LABELS:
            self.raised(NoLabel, {"name": label}, LOW.ratio_of, label)

    def test_at(self):
        values = {"one.b": Ratio(1, 2), "one.c": 2, "one.d": -1, "two.x": 7}
        self.assertEqual([LOW.at(values), LOW.at(values=values), Row({}).at({})], [7, 7, 0])
        self.all_ratios([LOW.at(values), Row({}).at({})])
        self.assertEqual(values, {"one.b": Ratio(1, 2), "one.c": 2, "one.d": -1, "two.x": 7})
        lazy = defaultdict(int, {"one.b": 1})
        self.bad(BadNumber, "values", LOW.at, lazy)
        self.assertEqual(dict(lazy), {"one.b": 1})

    def test_wrong_values(self):
        full = {"one.b": 1, "one.c": 1, "one.d": 1}
        for value in (None, 1, [], "one.b", Odd(), list(full.items()), {}, {"one.b": 1, "one.c": 1}):
            self.bad(BadNumber, "values", LOW.at, value)
        for ratio in NO_RATIOS:
            self.bad(BadNumber, "values", LOW.at, {**full, "one.c": ratio})
            self.bad(BadNumber, "values", LOW.at, {**full, "one.z": ratio})
        for label in (None, 3, "one", ("one.a",)):
            self.bad(BadNumber, "values", LOW.at, {**full, label: 1})

    def test_sums(self):
        self.assertEqual(str(LOW + HIGH), "one.b -6 one.c 6 one.d -4")
        self.assertEqual(str(LOW - HIGH), "one.b -6 one.c 2")
        self.assertEqual(str(HIGH - LOW), "one.b 6 one.c -2")
        self.assertEqual(str(-HIGH), "one.c -2 one.d 2")
        self.assertEqual([str(HIGH * 0), str(HIGH * -3), str(-Row({}))], ["0", "one.c -6 one.d 6", "0"])
        self.all_ratios([ratio for row in (LOW + HIGH, -LOW, LOW * 2) for _, ratio in row.terms])
        self.assertEqual([str(LOW), str(HIGH)], ["one.b -6 one.c 4 one.d -2", "one.c 2 one.d -2"])

    def test_wrong_others(self):
        for value in NO_ROWS:
            self.bad(BadRow, "other", lambda: LOW + value)
            self.bad(BadRow, "other", lambda: LOW - value)
        for value in NO_RATIOS + (LOW,):
            self.bad(BadNumber, "ratio", lambda: LOW * value)

    def test_equality(self):
        self.assertEqual([Row({"one.a": 1}) == Row({"one.a": Ratio(1), "one.b": 0}), Row({}) == Row({})], [True, True])
        self.assertEqual([LOW == HIGH, LOW != HIGH, LOW != LOW, Row({"one.a": 1}) == Row({"one.b": 1})],
                         [False, True, False, False])
        for value in NO_ROWS:
            self.assertEqual([Row({}) == value, Row({}) != value], [False, True])

    def test_texts(self):
        for text in ("0", "one.a 1", "one.a -1/2 one.b 3 two.a 1/3", "one.a " + "1" * 60):
            self.assertEqual(str(Row.read(text)), text)
        self.assertEqual([Row.read("one.a 1").terms, Row.read("0") == Row({})], [(("one.a", 1),), True])

    def test_texts_bent(self):
        for text, word in (("", 0), ("x", 0), ("one.a", 1), ("one.a x", 1), ("one.a 0", 1), ("one.a 1 one.a 2", 2),
                           ("one.b 1 one.a 2", 2), ("one.a 1 one.b", 3), ("one.a 1 one.b 0", 3), ("0 0", 1),
                           ("0 one.a 1", 1), ("one.a 1 0", 2), ("one.a 1 ", 2), (" one.a 1", 0), ("one.a  1", 1),
                           ("one.a 2/4", 1), ("one.a 1 one.b 2 3", 4), ("one.a " + "1" * 61, 1), ("1 one.a", 0),
                           ("one.a 1\n", 1), ("one 1", 0), ("00", 0), ("one.b 1 one.a x", 2)):
            self.bad_text(word, Row.read, text)
        for value in NO_TEXTS:
            self.bad_text(0, Row.read, value)


if __name__ == "__main__":
    unittest.main()
