"""Which papers of drawn marks are right, reckoned in Fractions."""

from alleyes.cones import Below, Mixed, Zero
from alleyes.drawn import Drawn, Hidden, Sometimes, Spread
from alleyes.ranges import Even, Stretch
from tests.right_cones import right_signs, right_stretch


def right_drawn(cone, form, value):
    """Whether a value is a right one of the four papers of a form, three rows."""
    across, upward, ahead = form
    if type(value) is Drawn:
        x_even, y_even = value.x_even, value.y_even
        return type(x_even) is Even and type(y_even) is Even and same_number(value.x, x_even.number) and same_number(
            value.y, y_even.number) and right_stretch(cone, across, ahead, x_even) and right_stretch(cone, upward, ahead, y_even)
    if type(value) is Spread:
        kinds = [type(value.x_range), type(value.y_range)]
        return Stretch in kinds and right_stretch(cone, across, ahead, value.x_range) and right_stretch(
            cone, upward, ahead, value.y_range)
    if type(value) is Sometimes:
        return right_signs(cone, ahead, Mixed(*value.parts))
    return type(value) is Hidden and type(value.signs) in (Zero, Below) and right_signs(cone, ahead, value.signs)


def same_number(one, other):
    return not isinstance(one, bool) and type(one).__name__ in ("Ratio", "int") and one == other
