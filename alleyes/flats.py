"""Flats: eye rows, what they add up to, and the eyes at which all of them are 0."""

from alleyes.checks import is_list
from alleyes.errors import BadEyeRow, BadFlat
from alleyes.eyes import Eye, check_eye
from alleyes.ratios import Ratio, check_ratio, is_ratio, ratio_at, triple_of
from alleyes.tables import leads_of, reduced_in, table_of, weights_in
from alleyes.texts import end_at, words_of

WIDTH = 4
LEFT_WIDTH = 3


class EyeRow:
    """At (A, B, s) it is a A + b B + c s + g."""

    def __init__(self, a, b, c, g):
        if not is_ratio(a):
            raise BadEyeRow("a")
        if not is_ratio(b):
            raise BadEyeRow("b")
        if not is_ratio(c):
            raise BadEyeRow("c")
        if not is_ratio(g):
            raise BadEyeRow("g")
        self.a = Ratio.of(a)
        self.b = Ratio.of(b)
        self.c = Ratio.of(c)
        self.g = Ratio.of(g)

    @property
    def left(self):
        """The triple (a, b, c)."""
        return self.a, self.b, self.c

    @property
    def is_nothing(self):
        """Whether all four numbers are 0."""
        return numbers_of(self) == (0, 0, 0, 0)

    def at(self, eye):
        """What the row is at an eye."""
        check_eye(eye)
        return row_at(self, (eye.a, eye.b, eye.s))

    def __add__(self, other):
        check_eye_row(other, "other")
        return EyeRow(self.a + other.a, self.b + other.b, self.c + other.c, self.g + other.g)

    def __sub__(self, other):
        check_eye_row(other, "other")
        return EyeRow(self.a - other.a, self.b - other.b, self.c - other.c, self.g - other.g)

    def __neg__(self):
        return EyeRow(-self.a, -self.b, -self.c, -self.g)

    def __mul__(self, other):
        check_ratio(other, "ratio")
        return EyeRow(self.a * other, self.b * other, self.c * other, self.g * other)

    def __eq__(self, other):
        return isinstance(other, EyeRow) and numbers_of(self) == numbers_of(other)

    def __str__(self):
        return f"{self.a} {self.b} {self.c} {self.g}"

    @staticmethod
    def read(text):
        """The eye row with this text."""
        words = words_of(text)
        a, b, c, g = [ratio_at(words, at) for at in range(WIDTH)]
        end_at(words, WIDTH)
        return EyeRow(a, b, c, g)


class Flat:
    """Some eye rows, its lines."""

    def __init__(self, lines):
        if not _are_eye_rows(lines):
            raise BadFlat("lines")
        self.lines = tuple(lines)
        self._table = None

    @property
    def table(self):
        """The Table of its lines over the places of their four numbers."""
        if self._table is None:
            self._table = table_of([_pairs_of(line) for line in self.lines], WIDTH)
        return self._table

    @property
    def rank(self):
        """The rank of the left sides of its lines."""
        return len([lead for lead in leads_of(self.table) if lead < LEFT_WIDTH])

    @property
    def reduced(self):
        """The reduced eye rows that have the same sums as the lines."""
        return tuple([_row_of(dict(pairs)) for pairs in reduced_in(self.table)])

    def __len__(self):
        return len(self.lines)

    def __contains__(self, value):
        return isinstance(value, Eye) and are_zero_at(self, (value.a, value.b, value.s))

    def __eq__(self, other):
        return isinstance(other, Flat) and self.lines == other.lines

    def narrowed(self, lines):
        """The flat with these lines behind its own ones."""
        if not _are_eye_rows(lines):
            raise BadFlat("lines")
        return Flat([*self.lines, *lines])

    def weights_of(self, row):
        """Weights with which the lines add up to the row; None if there are none."""
        check_eye_row(row, "row")
        return weights_in(self.table, _pairs_of(row))


def product_row(one, other):
    """The row of the product of two triples."""
    d1, d2, d3 = triple_of(one, "one")
    e1, e2, e3 = triple_of(other, "other")
    return EyeRow(-(d1 * e3 + d3 * e1), -(d2 * e3 + d3 * e2), d3 * e3, d1 * e1 + d2 * e2)


def circle_row(a, b, t):
    """The row that is (A - a)(A - a) + (B - b)(B - b) + f f + t at an eye."""
    foot, other = Ratio.of(a), Ratio.of(b)
    return EyeRow(foot * -2, other * -2, 1, foot * foot + other * other + t)


def one_row():
    """The row that is 1 everywhere."""
    return EyeRow(0, 0, 0, 1)


def row_at(row, numbers):
    """What a row is at three Ratios."""
    a, b, s = numbers
    return row.a * a + row.b * b + row.c * s + row.g


def are_zero_at(flat, numbers):
    """Whether all lines of the flat are 0 at three Ratios."""
    return all([row_at(line, numbers) == 0 for line in flat.lines])


def numbers_of(row):
    """The four numbers of a row."""
    return row.a, row.b, row.c, row.g


def check_flat(flat):
    """BadFlat for what is no flat."""
    if not isinstance(flat, Flat):
        raise BadFlat("flat")


def check_eye_row(value, part):
    """BadEyeRow with the name of an argument that is no eye row."""
    if not isinstance(value, EyeRow):
        raise BadEyeRow(part)


def check_flat_row(flat, row):
    """BadFlat for what is no flat, BadEyeRow for what is no eye row."""
    check_flat(flat)
    check_eye_row(row, "row")


def _are_eye_rows(value):
    return is_list(value) and all([isinstance(row, EyeRow) for row in value])


def _pairs_of(row):
    return list(enumerate(numbers_of(row)))


def _row_of(numbers):
    """The row of a dict of Ratios by places."""
    return EyeRow(numbers.get(0, 0), numbers.get(1, 0), numbers.get(2, 0), numbers.get(3, 0))
