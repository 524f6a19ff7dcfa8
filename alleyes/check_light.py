"""Whether what the sun, lamps, water and mirrors tell is right."""

from alleyes.check_cones import shows_stretch
from alleyes.check_drawn import shows_drawn_form
from alleyes.lamps import times_asked
from alleyes.mirrors import mirrored, slid
from alleyes.sun import shadow_mark


def shows_shadow(standing, top, foot, lit_top, lit_foot, lit_end, value):
    """Whether value equals what shadow_mark returns."""
    return shadow_mark(standing, top, foot, lit_top, lit_foot, lit_end) == value


def shows_times(standing, foot, post, end, value):
    """Whether value is a right paper of how many times as high as a post a lamp is."""
    cone, top, under = times_asked(standing, foot, post, end)
    return shows_stretch(cone, top, under, value)


def shows_slid(standing, mark, base, one, other, ray, value):
    """Whether value is a right paper of where a slid mark is drawn."""
    form = slid(standing, mark, base, one, other, ray)
    return shows_drawn_form(standing, mark.picture_name, form, value)


def shows_mirrored(standing, mark, base, one, other, upright, value):
    """Whether value is a right paper of where a mirrored mark is drawn."""
    form = mirrored(standing, mark, base, one, other, upright)
    return shows_drawn_form(standing, mark.picture_name, form, value)
