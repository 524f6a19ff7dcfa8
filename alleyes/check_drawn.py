"""Whether papers of drawn marks and of measures are right, by adding, multiplying and comparing."""

from alleyes.check_cones import shows_signs, shows_stretch
from alleyes.cones import Below, Mixed, Zero
from alleyes.drawn import Drawn, Hidden, Sometimes, Spread, cone_asked, mark_asked, step_asked
from alleyes.ranges import Even
from alleyes.ratios import is_ratio
from alleyes.ready import measure_asked


def shows_drawn(standing, mark, value):
    """Whether value is a right paper of where a mark is drawn."""
    cone, form = mark_asked(standing, mark)
    return _shows(cone, form, value)


def shows_seen(standing, place, mark, value):
    """Whether value is a right paper of where an eye at the mark place sees a mark."""
    cone, form = step_asked(standing, place, mark)
    return _shows(cone, form, value)


def shows_drawn_form(standing, name, form, value):
    """Whether value is a right paper of where a mark of this picture with this form is drawn."""
    return _shows(cone_asked(standing, name, form), form, value)


def shows_part(standing, label, one, other, side, mate, value):
    """Whether value shows how far along the way from one to other the label lies."""
    cone, top, under = measure_asked(standing, label, one, other, side, mate)
    return shows_stretch(cone, top, under, value)


def _shows(cone, form, value):
    """Whether value is a right one of the four papers of a form."""
    across, upward, ahead = form
    if type(value) is Drawn:
        return _is_even(cone, across, ahead, value.x, value.x_even) and (
            _is_even(cone, upward, ahead, value.y, value.y_even))
    if type(value) is Spread:
        if type(value.x_range) is Even and type(value.y_range) is Even:
            return False
        return shows_stretch(cone, across, ahead, value.x_range) and shows_stretch(cone, upward, ahead, value.y_range)
    if type(value) is Sometimes:
        return shows_signs(cone, ahead, Mixed(value.below, value.zero, value.above))
    if type(value) is not Hidden:
        return False
    return (type(value.signs) is Zero or type(value.signs) is Below) and shows_signs(cone, ahead, value.signs)


def _is_even(cone, top, under, number, even):
    """Whether an Even shows that a number is the one quotient."""
    # An integer may stand for the number of an Even, to which True may be equal.
    return type(even) is Even and shows_stretch(cone, top, under, even) and is_ratio(number) and even.number == number
