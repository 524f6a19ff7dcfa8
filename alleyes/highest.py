"""The highest eye of a flat, and its one eye, if it has just one."""

from alleyes.bowl import Sees, eye_of_flat, some_eye
from alleyes.eyes import Eye, height_over
from alleyes.flats import check_flat, circle_row
from alleyes.papers import Paper
from alleyes.peaks import foot_of, is_upward, peak_of

RANK_OF_ONE = 3


class Highest(Paper):
    """The highest eye, and weights with which the lines add up to the circle row of a, b and its height's negative."""

    def __init__(self, a, b, s, weights):
        super().__init__("highest", a, b, s, weights)
        self.a, self.b, self.s, self.weights = self.parts


class Upward(Paper):
    """A foot over which each s above a a + b b tells an eye of the flat."""

    def __init__(self, a, b):
        super().__init__("upward", a, b)
        self.a, self.b = self.parts


def one_eye(flat):
    """The Eye of a flat that has just one; otherwise None."""
    check_flat(flat)
    if flat.rank < RANK_OF_ONE:
        return None
    found = some_eye(flat)
    if type(found) is not Sees:
        return None
    return Eye(found.a, found.b, found.s)


def highest(flat):
    """A Highest, or an Upward if eyes of the flat are as high as one likes."""
    eye_of_flat(flat)
    if is_upward(flat):
        a, b = foot_of(flat)
        return Upward(a, b)
    a, b, s = peak_of(flat)
    return Highest(a, b, s, flat.weights_of(circle_row(a, b, -height_over(a, b, s))))
