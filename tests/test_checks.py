"""Integers, names, labels."""

import unittest

from alleyes.checks import is_integer, is_label, is_name, is_within
from tests.support import NO_INTEGERS, NO_LABELS, NO_NAMES


class ChecksTest(unittest.TestCase):
    def test_integers(self):
        for value in (0, 1, -1, 10 ** 100, -10 ** 5000):
            self.assertIs(is_integer(value), True)
        for value in NO_INTEGERS:
            self.assertIs(is_integer(value), False)

    def test_within(self):
        self.assertEqual([is_within(value, 1, 3) for value in (0, 1, 2, 3, 4)], [False, True, True, True, False])
        self.assertEqual([is_within(value, None, 3) for value in (-9, 3, 4)], [True, True, False])
        self.assertEqual([is_within(value, 1, None) for value in (0, 1, 10 ** 70)], [False, True, True])
        self.assertIs(is_within(-10 ** 70, None, None), True)
        self.assertIs(is_within(value=2, least=3, most=1), False)
        for value in NO_INTEGERS:
            self.assertIs(is_within(value, None, None), False)
            self.assertIs(is_within(value, 0, 9), False)

    def test_names(self):
        for value in ("a", "z", "one", "a1", "z09", "abcdefghijkl", "a23456789012"):
            self.assertIs(is_name(value), True)
        for value in NO_NAMES:
            self.assertIs(is_name(value), False)
        for value in ("a" * 13, "a" * 100000, "1", "0a", "a-b", "a\n", " a", "\u00df", "a\u00b2", "\uff41", "A"):
            self.assertIs(is_name(value), False)

    def test_labels(self):
        for value in ("one.a", "a.b", "abcdefghijkl.abcdefghijkl", "a1.b2"):
            self.assertIs(is_label(value), True)
        for value in NO_LABELS:
            self.assertIs(is_label(value), False)
        for value in ("one..a", "one.a\n", " one.a", "one.1", "1.a", "one.a" * 20000, "one/a"):
            self.assertIs(is_label(value), False)


if __name__ == "__main__":
    unittest.main()
