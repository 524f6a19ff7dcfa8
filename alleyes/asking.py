"""Asking: which rows a saying reads over a heap, and what is to be of them; or for which steps it waits."""

from alleyes.books import check_label_known, check_part_known
from alleyes.checks import picture_of
from alleyes.cones import Above, Below, signs_of
from alleyes.fitting import plane_of, turned_by
from alleyes.flats import product_row
from alleyes.groups import direction_found, home_form_in, meet_in, ratio_together
from alleyes.ready import row_along
from alleyes.rows import Row
from alleyes.sheet import cross
from alleyes.standing import heap_among
from alleyes.steps import Mark, Step
from alleyes.uses import above_row_of, lengths_row, row_in_plane, turned_rows

ALL_ZERO = "allzero"
SAME_WAY = "sameway"
ROW = "row"
EYE_ROW = "eyerow"
WAITING = "waiting"
IS_ZERO = "zero"
IS_ABOVE = "above"
FROM_ZERO = "fromzero"
RIGHT_ANGLES = ("upright", "sharp", "blunt")
NEGATIVES = ("blunt", "shorter")


class Asked:
    """What a saying reads: rows that are to be 0, a row, or an eye row, and what is sought of it; or what it waits for.

    Of a same way rows are those that are to be 0, row the one that is to be above 0.
    """

    def __init__(self, kind, heap, rows=(), row=None, sought=IS_ZERO, steps=()):
        self.kind = kind
        self.heap = heap
        self.rows = rows
        self.row = row
        self.sought = sought
        self.steps = steps


def check_saying_known(book, saying):
    """NoLabel, NoPicture for the first of a saying that the book lacks, parameter by parameter."""
    for part in saying.parts:
        if isinstance(part, (Step, Mark)):
            check_part_known(book, part)
        elif isinstance(part, str):
            check_label_known(book, part)


def asked_of(standing, saying):
    """The Asked of a saying about a possible book."""
    names = [step.picture_name for step in saying.steps]
    names = names + [picture_of(part) for part in saying.parts if isinstance(part, str)]
    if saying.word == "before":
        return _asked_before(standing, saying)
    heap = heap_among(standing.heaps, names[0])
    if not all([name in heap.names for name in names]):
        return _waits(heap, saying.steps)
    if saying.word == "null":
        return Asked(ALL_ZERO, heap, home_form_in(standing.book, heap.maps, saying.step))
    if saying.word == "along":
        return _asked_along(heap, saying)
    if saying.word == "sameway":
        return _asked_same_way(heap, saying)
    if saying.word == "deeper":
        return Asked(ROW, heap, (), Row({saying.one: 1}) - Row({saying.other: 1}), IS_ABOVE)
    if saying.word == "inplane":
        return _asked_in_plane(heap, saying)
    if saying.word == "onside":
        return _asked_on_side(heap, saying)
    if saying.word == "atleast":
        return _asked_at_least(heap, saying)
    return _asked_of_eyes(heap, saying)


def _asked_before(standing, saying):
    """A mark is before the eye where the sum of its ratios times the depths is above 0."""
    heap = heap_among(standing.heaps, saying.mark.picture_name)
    return Asked(ROW, heap, (), Row(dict(saying.mark.terms)), IS_ABOVE)


def _asked_along(heap, saying):
    group = heap.group
    turned = turned_by(group, saying)
    if turned is not None:
        step, direction = turned
        return Asked(ALL_ZERO, heap, turned_rows(_form_in(group, step), direction))
    meet = meet_in(group, saying.one, saying.other)
    if meet is None:
        return _waits_unsettled(heap, saying, saying.steps)
    one, other = [turned_rows(_form_in(group, step), meet) for step in saying.steps]
    return Asked(ALL_ZERO, heap, (*one, *other))


def _asked_same_way(heap, saying):
    turned = turned_by(heap.group, saying)
    if turned is None:
        return _waits_unsettled(heap, saying, saying.steps)
    step, direction = turned
    form = _form_in(heap.group, step)
    return Asked(SAME_WAY, heap, turned_rows(form, direction), above_row_of(form, direction))


def _asked_in_plane(heap, saying):
    directions = plane_of(heap.group, saying.one, saying.other)
    if directions is None:
        return _waits_unsettled(heap, saying, (saying.one, saying.other))
    one, other = directions
    return Asked(ROW, heap, (), row_in_plane(_form_in(heap.group, saying.step), cross(one, other)), IS_ZERO)


def _asked_on_side(heap, saying):
    directions = plane_of(heap.group, saying.one, saying.other)
    if directions is None:
        return _waits_unsettled(heap, saying, saying.steps)
    one, other = directions
    numbers = cross(one, other)
    sign = _side_of(heap, row_along(heap.group, saying.base, saying.mate, numbers))
    if sign == 0:
        return _waits(heap, (Step.between(saying.base, saying.mate),))
    return Asked(ROW, heap, (), row_along(heap.group, saying.base, saying.label, numbers) * sign, IS_ABOVE)


def _asked_at_least(heap, saying):
    directions = plane_of(heap.group, saying.side, saying.mate)
    if directions is None:
        return _waits_unsettled(heap, saying, saying.steps)
    side, mate = directions
    numbers = cross(side, mate)
    whole = row_along(heap.group, saying.one, saying.other, numbers)
    sign = _side_of(heap, whole)
    if sign == 0:
        return _waits(heap, (Step.between(saying.one, saying.other),))
    row = row_along(heap.group, saying.one, saying.label, numbers) - whole * saying.ratio
    return Asked(ROW, heap, (), row * sign, FROM_ZERO)


def _asked_of_eyes(heap, saying):
    """Right angles and lengths, and what is more or less than these."""
    group = heap.group
    one, other = [direction_found(group, step) for step in saying.steps]
    if one is None or other is None:
        return _waits_unsettled(heap, saying, saying.steps)
    if saying.word in RIGHT_ANGLES:
        row = product_row(one, other)
    else:
        ratio = ratio_together(group, saying.one, saying.other)
        if ratio is None:
            return _waits(heap, saying.steps)
        row = lengths_row(one, other, ratio, saying)
    if saying.word in ("upright", "lengths"):
        return Asked(EYE_ROW, heap, (), row, IS_ZERO)
    return Asked(EYE_ROW, heap, (), -row if saying.word in NEGATIVES else row, IS_ABOVE)


def _side_of(heap, row):
    """1 or -1 if a row is above or below, otherwise 0."""
    signs = signs_of(heap.cone, row)
    if type(signs) is Above:
        return 1
    return -1 if type(signs) is Below else 0


def _form_in(group, step):
    return home_form_in(group.book, group.maps, step)


def _waits(heap, steps):
    return Asked(WAITING, heap, steps=tuple(steps))


def _waits_unsettled(heap, saying, needed):
    """Waiting for those of the needed steps that are not settled, each once; for all steps if there are none."""
    found = []
    for step in needed:
        if direction_found(heap.group, step) is None and step not in found:
            found.append(step)
    return _waits(heap, found if found else saying.steps)
