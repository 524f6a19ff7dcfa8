"""Eyes: from where a picture looks right."""

from alleyes.errors import BadEye, BadNumber, BadText
from alleyes.ratios import Ratio, check_ratio, is_positive, is_ratio, ratio_at
from alleyes.texts import end_at, words_of


class Eye:
    """Over the foot (a, b) of the sheet, its height being s less a a + b b."""

    def __init__(self, a, b, s):
        if not is_ratio(a):
            raise BadEye("a")
        if not is_ratio(b):
            raise BadEye("b")
        if not is_ratio(s) or not is_over(a, b, s):
            raise BadEye("s")
        self.a = Ratio.of(a)
        self.b = Ratio.of(b)
        self.s = Ratio.of(s)

    @property
    def height(self):
        """The square of its distance from the sheet."""
        return height_over(self.a, self.b, self.s)

    def moved(self, u, v):
        """The eye of the picture moved to the right by u, up by v."""
        check_ratio(u, "u")
        check_ratio(v, "v")
        a, b = self.a + u, self.b + v
        return Eye(a, b, self.height + a * a + b * b)

    def enlarged(self, m):
        """The eye of the picture m times as large."""
        if not is_positive(m):
            raise BadNumber("m")
        return Eye(self.a * m, self.b * m, self.s * m * m)

    def turned(self):
        """The eye of the picture turned by a quarter."""
        return Eye(-self.b, self.a, self.s)

    def mirrored(self):
        """The eye of the mirrored picture."""
        return Eye(-self.a, self.b, self.s)

    def __eq__(self, other):
        if not isinstance(other, Eye):
            return False
        return self.a == other.a and self.b == other.b and self.s == other.s

    def __str__(self):
        return f"{self.a} {self.b} {self.s}"

    @staticmethod
    def read(text):
        """The eye with this text."""
        words = words_of(text)
        a, b, s = ratio_at(words, 0), ratio_at(words, 1), ratio_at(words, 2)
        if not is_over(a, b, s):
            raise BadText(0, 2)
        end_at(words, 3)
        return Eye(a, b, s)


def check_eye(value):
    """BadEye for what is no eye."""
    if not isinstance(value, Eye):
        raise BadEye("eye")


def height_over(a, b, s):
    """The height of the triple (a, b, s), which is an eye if it is above 0."""
    foot, other = Ratio.of(a), Ratio.of(b)
    return Ratio.of(s) - foot * foot - other * other


def is_over(a, b, s):
    """Whether three ratios tell an eye."""
    return height_over(a, b, s).sign > 0
