"""Whether maps between pictures, marks drawn in others, their eyes, and what is lacking are right."""

from alleyes.check_drawn import shows_drawn_form
from alleyes.check_eyes import is_eye_in
from alleyes.checks import is_integer, is_within
from alleyes.eyes import is_over
from alleyes.flats import EyeRow, Flat, are_zero_at
from alleyes.highest import RANK_OF_ONE
from alleyes.lacks import Lacks
from alleyes.links import Joined, form_in, map_between
from alleyes.maps import map_back
from alleyes.ratios import ratios_of
from alleyes.seconds import SecondEye, Several, mate_by, second_asked
from alleyes.standing import check_standing, check_stands
from alleyes.steps import check_mark


def shows_link(standing, one, other, value):
    """Whether value is the Joined of two pictures, or the Apart that tells why there is none."""
    found = map_between(standing, one, other)
    if type(value) is Joined and not _are_whole(value.lines):
        return False
    return type(value) is type(found) and value == found


def shows_drawn_in(standing, mark, name, value):
    """Whether value is a right paper of where a mark is drawn in a picture of its heap."""
    check_standing(standing)
    check_mark(mark, "mark")
    return shows_drawn_form(standing, name, form_in(standing, mark, name), value)


def shows_second(standing, name, value):
    """Whether value is the SecondEye of a picture, or a right Several."""
    lines, flat = second_asked(standing, name)
    # The look rows and the mate of an eye of this picture, in the home, go by the map back.
    back = map_back(lines)
    if type(value) is SecondEye:
        return flat.rank == RANK_OF_ONE and _is_eye_of(back, flat, value.parts)
    if type(value) is not Several or not all([_is_eye_of(back, flat, eye) for eye in value.parts]):
        return False
    return ratios_of(value.one, 3) != ratios_of(value.other, 3)


def shows_lacks(standing, value):
    """Whether value is a right Lacks of one of the heaps."""
    check_standing(standing)
    check_stands(standing)
    if type(value) is not Lacks or not is_within(value.number, 0, RANK_OF_ONE):
        return False
    flats = [heap.flat for heap in standing.heaps if heap.home == value.home]
    return len(flats) == 1 and _are_leads(flats[0], value) and _are_eyes_apart(flats[0], value)


def _are_whole(lines):
    """Whether all items of three triples are integers, so that they may be compared with a map."""
    if not isinstance(lines, tuple) or not all([isinstance(line, tuple) for line in lines]):
        return False
    return all([is_integer(number) for line in lines for number in line])


def _is_eye_of(back, flat, value):
    """Whether any value is the triple of an eye, whose mate by this map is an eye of the flat."""
    numbers = ratios_of(value, 3)
    if numbers is None:
        return False
    a, b, s = numbers
    if not is_over(a, b, s):
        return False
    mate = mate_by(back, numbers)
    return mate is not None and are_zero_at(flat, mate)


def _are_leads(flat, value):
    """Whether the leads are as many different lines as the rank is, and their left sides have it."""
    leads = value.leads
    if not isinstance(leads, tuple) or len(leads) != RANK_OF_ONE - value.number:
        return False
    if not all([is_within(lead, 0, len(flat.lines) - 1) for lead in leads]):
        return False
    return Flat([flat.lines[lead] for lead in leads]).rank == len(leads)


def _are_eyes_apart(flat, value):
    """Whether the eyes are one more than what is lacking, whose differences from the first one have this rank."""
    if not isinstance(value.eyes, tuple) or len(value.eyes) != value.number + 1:
        return False
    if not all([is_eye_in(flat, eye) for eye in value.eyes]):
        return False
    (first_a, first_b, first_s), *others = [ratios_of(eye, 3) for eye in value.eyes]
    return Flat([EyeRow(a - first_a, b - first_b, s - first_s, 0) for a, b, s in others]).rank == value.number
