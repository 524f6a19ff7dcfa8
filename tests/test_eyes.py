"""Eyes: numbers, heights, eyes of carried pictures, texts."""

import unittest

from alleyes.errors import BadEye, BadNumber
from alleyes.eyes import Eye
from alleyes.ratios import Ratio
from tests.support import NO_RATIOS, NO_TEXTS, Checks, Odd

OVER = Eye(3, 1, 15)


class EyesTest(unittest.TestCase, Checks):
    def test_example(self):
        found = [OVER.height, str(OVER.moved(1, Ratio(1, 2))), str(OVER.turned()), str(OVER.mirrored().enlarged(2))]
        self.assertEqual(found, [5, "4 3/2 93/4", "-1 3 15", "-6 2 60"])
        self.bad_text(2, Eye.read, "1 1 2")

    def test_attributes(self):
        eye = Eye(a=Ratio(1, 2), b=-1, s=Ratio(3, 2))
        self.assertEqual([eye.a, eye.b, eye.s, eye.height], [Ratio(1, 2), -1, Ratio(3, 2), Ratio(1, 4)])
        self.all_ratios([OVER.a, OVER.b, OVER.s, OVER.height])

    def test_wrong_eyes(self):
        for value in NO_RATIOS:
            self.bad(BadEye, "a", Eye, value, None, None)
            self.bad(BadEye, "b", Eye, 0, value, None)
            self.bad(BadEye, "s", Eye, 0, 0, value)
        for a, b, s in ((0, 0, 0), (1, 1, 2), (1, -1, Ratio(19, 10)), (0, 0, -1), (Ratio(1, 2), 0, Ratio(1, 4))):
            self.bad(BadEye, "s", Eye, a, b, s)
        self.assertEqual(Eye(1, 1, Ratio(201, 100)).height, Ratio(1, 100))

    def test_new_eyes(self):
        self.assertEqual(str(OVER.moved(u=-3, v=-1)), "0 0 5")
        self.assertEqual([OVER.moved(2, 5).height, OVER.turned().height, OVER.mirrored().height], [5, 5, 5])
        self.assertEqual([OVER.enlarged(m=Ratio(1, 3)).height, str(OVER.enlarged(Ratio(1, 3)))],
                         [Ratio(5, 9), "1 1/3 5/3"])
        self.assertEqual([OVER.turned().turned().turned().turned(), OVER.mirrored().mirrored(), str(OVER)],
                         [OVER, OVER, "3 1 15"])
        for value in NO_RATIOS:
            self.bad(BadNumber, "u", OVER.moved, value, None)
            self.bad(BadNumber, "v", OVER.moved, 1, value)
            self.bad(BadNumber, "m", OVER.enlarged, value)
        for value in (0, -1, Ratio(0), Ratio(-1, 2)):
            self.bad(BadNumber, "m", OVER.enlarged, value)

    def test_equality(self):
        self.assertEqual([OVER == Eye(Ratio(3), 1, 15), OVER == Eye(3, 1, 16), OVER == Eye(3, 2, 15), OVER != OVER],
                         [True, False, False, False])
        self.assertIs(OVER == Eye(2, 1, 15), False)
        for value in (None, (3, 1, 15), "3 1 15", Odd()):
            self.assertEqual([OVER == value, OVER != value], [False, True])

    def test_texts(self):
        for text in ("3 1 15", "0 0 1", "-1/2 1/3 1"):
            self.assertEqual(str(Eye.read(text)), text)
        self.assertEqual(Eye.read("3 1 15"), OVER)
        for text, word in (("", 0), ("3", 1), ("3 1", 2), ("x 1 15", 0), ("3 x 15", 1), ("3 1 x", 2), ("3 1 15 1", 3),
                           ("3 1 15 ", 3), ("1 1 2 1", 2), ("3 1 10", 2), ("3  1 15", 1), ("3 1 30/2", 2),
                           ("0 0 " + "1" * 61, 2), ("0 0 0", 2), ("0 0 -1", 2)):
            self.bad_text(word, Eye.read, text)
        for value in NO_TEXTS:
            self.bad_text(0, Eye.read, value)


if __name__ == "__main__":
    unittest.main()
