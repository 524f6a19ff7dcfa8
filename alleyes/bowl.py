"""The bowl: whether a flat has an eye, and what an eye row is over its eyes."""

from alleyes.errors import Impossible
from alleyes.eyes import Eye, height_over
from alleyes.flats import check_flat, check_flat_row, circle_row, one_row, row_at
from alleyes.papers import Denial, Paper
from alleyes.peaks import foot_of, has_no_triple, is_upward, peak_of, ways_in
from alleyes.ratios import Ratio

NO_EYE = "noeye"


class Sees(Paper):
    """An eye of the flat."""

    def __init__(self, a, b, s):
        super().__init__("sees", a, b, s)
        self.a, self.b, self.s = self.parts

    @property
    def as_eye(self):
        """The Eye."""
        return Eye(self.a, self.b, self.s)


class NoEye(Denial):
    """Weights with which the lines add up to the circle row of a, b, t; or, these being None, to the one row."""

    def __init__(self, weights, a, b, t):
        super().__init__("noeye", weights, a, b, t)
        self.weights, self.a, self.b, self.t = self.parts


class ZeroEyes(Paper):
    """The lines, times these weights, add up to the row."""

    def __init__(self, weights):
        super().__init__("zeroeyes", weights)
        self.weights = self.parts[0]


class AboveEyes(Paper):
    """An eye at which the row is above 0, and a NoEye's parts, of the flat with the row as its last line."""

    def __init__(self, eye, bar):
        super().__init__("aboveeyes", eye, bar)
        self.eye, self.bar = self.parts


class BelowEyes(Paper):
    """An eye at which the row is below 0, and a NoEye's parts, of the flat with the row as its last line."""

    def __init__(self, eye, bar):
        super().__init__("beloweyes", eye, bar)
        self.eye, self.bar = self.parts


class MixedEyes(Paper):
    """Three eyes, at which the row is below 0, 0, above 0."""

    def __init__(self, below, zero, above):
        super().__init__("mixedeyes", below, zero, above)
        self.below, self.zero, self.above = self.parts


def some_eye(flat):
    """A Sees, or a NoEye if the flat has no eye."""
    check_flat(flat)
    if has_no_triple(flat):
        return NoEye(flat.weights_of(one_row()), None, None, None)
    if is_upward(flat):
        a, b = foot_of(flat)
        return Sees(a, b, a * a + b * b + 1)
    a, b, s = peak_of(flat)
    height = height_over(a, b, s)
    if height.sign > 0:
        return Sees(a, b, s)
    return NoEye(flat.weights_of(circle_row(a, b, -height)), a, b, -height)


def signs_at_eyes(flat, row):
    """What the row is over the eyes: a ZeroEyes, an AboveEyes, a BelowEyes or a MixedEyes."""
    check_flat_row(flat, row)
    seen = eye_of_flat(flat)
    weights = flat.weights_of(row)
    if weights is not None:
        return ZeroEyes(weights)
    found = some_eye(flat.narrowed([row]))
    if type(found) is Sees:
        return _mixed(flat, row, found.parts)
    if row_at(row, seen).sign > 0:
        return AboveEyes(seen, found.parts)
    return BelowEyes(seen, found.parts)


def eye_of_flat(flat):
    """The triple of an eye of the flat; Impossible if it has none."""
    found = some_eye(flat)
    if type(found) is NoEye:
        raise Impossible(NO_EYE)
    return found.parts


def eyes_around(flat):
    """Triples of eyes of a flat that has one: an eye, and for each way that goes on in the flat one by it."""
    seen = eye_of_flat(flat)
    return (seen, *[_gone(seen, way, _length_in_bowl(seen, way)) for way in ways_in(flat)])


def _mixed(flat, row, eye):
    """The MixedEyes of a row that is 0 at an eye, but not a sum of the lines."""
    slopes = [(way, row.a * way[0] + row.b * way[1] + row.c * way[2]) for way in ways_in(flat)]
    way, slope = [(way, slope) for way, slope in slopes if slope][0]
    length = _length_in_bowl(eye, way) * slope.sign
    return MixedEyes(_gone(eye, way, -length), eye, _gone(eye, way, length))


def _length_in_bowl(eye, way):
    """How often one can go by a triple from an eye, either way, and still be at an eye."""
    a, b, s = eye
    # By a length of at most 1 the height loses at most the length times the slant and the bend.
    slant = abs(way[2] - (a * way[0] + b * way[1]) * 2)
    bend = way[0] * way[0] + way[1] * way[1]
    parts = (slant + bend).over(height_over(a, b, s))
    return Ratio(1, parts.top // parts.bottom + 1)


def _gone(eye, way, length):
    return tuple([number + step * length for number, step in zip(eye, way)])
