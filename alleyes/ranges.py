"""Ranges: between which ends the quotient of two rows lies over the scenes of a cone."""

from alleyes.cones import Above, check_cone_row, signs_of
from alleyes.errors import Unsettled
from alleyes.footings import reading, zero_weights
from alleyes.papers import Paper
from alleyes.rows import check_labels_known, value_at


class Even(Paper):
    """The one quotient, weights of the zero row that shows it, and an Above of the row under."""

    def __init__(self, number, weights, above):
        super().__init__("even", number, weights, above)
        self.number, self.weights, self.above = self.parts


class Stretch(Paper):
    """The ends, for each of them a paper and a ray, and an Above of the row under."""

    def __init__(self, low, high, low_end, high_end, above):
        super().__init__("stretch", low, high, low_end, high_end, above)
        self.low, self.high, self.low_end, self.high_end, self.above = self.parts


def stretch(cone, top, under):
    """An Even or a Stretch of the quotients of top by under, a row that is above."""
    check_rows_of_quotient(cone, top, under)
    above = signs_of(cone, under)
    if type(above) is not Above:
        raise Unsettled("under")
    number = _quotient(top, under, cone.footing.found)
    weights = zero_weights(cone.footing, top - under * number)
    if weights is not None:
        return Even(number, weights, above)
    low, low_end = _end_of(cone, top, under)
    against, high_end = _end_of(cone, -top, under)
    high = None if against is None else -against
    return Stretch(low, high, low_end, high_end, above)


def check_rows_of_quotient(cone, top, under):
    """The errors of a cone and of two rows over its labels."""
    check_cone_row(cone, top, "top")
    check_cone_row(cone, under, "under")
    check_labels_known([top, under], cone.labels)


def _end_of(cone, top, under):
    """The lower end, None without a bound, and a pair of the paper and the ray that show it."""
    board = cone.footing.board
    number, ray = _quotient(top, under, cone.footing.found), None
    while True:
        # A ray at which top is less than number times under has a lower quotient; where there is none, number is it.
        board, sum_parts, lower = reading(cone.footing, board, top - under * number)
        if sum_parts is not None:
            return number, (Above(*sum_parts), ray)
        ray = lower
        if value_at(under, ray) == 0:
            return None, (None, ray)
        number = _quotient(top, under, ray)


def _quotient(top, under, depths):
    return value_at(top, depths).over(value_at(under, depths))
