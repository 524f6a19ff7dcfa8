"""Plans: where labels lie in the plane along two steps, how long its ways are, and how large its areas."""

from alleyes.books import check_label_known, check_part_known
from alleyes.bowl import eye_of_flat
from alleyes.checks import first_twice, is_list, picture_of
from alleyes.errors import NoLabel, NotJoined, Nothing, Twice, Unsettled
from alleyes.flats import product_row, row_at
from alleyes.fitting import plane_of
from alleyes.groups import is_side, ratio_together, times_of, way_found
from alleyes.papers import Paper
from alleyes.ratios import Ratio, check_ratio
from alleyes.sheet import cross
from alleyes.standing import check_standing, check_stands, heap_among
from alleyes.steps import check_step
from alleyes.uses import turned_rows
from alleyes.ways import rest_in_cone

LEAST_CORNERS = 3


class Plan(Paper):
    """Triples of a label, and of how many times one and other lead to it."""

    def __init__(self, spots):
        super().__init__("plan", spots)
        self.spots = self.parts[0]


class Metric(Paper):
    """The square of the length of one, and the product of both, by the square of the length of other."""

    def __init__(self, square, mixed):
        super().__init__("metric", square, mixed)
        self.square, self.mixed = self.parts

    def square_of(self, m, n):
        """The square of the length of m times one and n times other, by that of other."""
        check_ratio(m, "m")
        check_ratio(n, "n")
        return Ratio.of(m) * m * self.square + Ratio.of(m) * 2 * n * self.mixed + Ratio.of(n) * n


def plan_of(standing, base, one, other, labels):
    """The Plan of those of the labels that are sure."""
    heap = plan_asked(standing, base, one, other, labels)
    spots = [spot_of(heap, base, one, other, label) for label in labels]
    return Plan([(label, *spot) for label, spot in zip(labels, spots) if spot is not None])


def metric(standing, one, other):
    """The Metric of two steps that are together; None if it is not told."""
    heap = metric_asked(standing, one, other)
    ratio = ratio_together(heap.group, one, other)
    v, w = [way_found(heap.group, step)[0] for step in (one, other)]
    square = _even_at_eyes(heap.flat, product_row(v, v) * (ratio * ratio), product_row(w, w))
    mixed = _even_at_eyes(heap.flat, product_row(v, w) * ratio, product_row(w, w))
    return None if square is None or mixed is None else Metric(square, mixed)


def area_ratio(standing, corners, others, base, one, other):
    """The area of some labels, in the order round, by that of others."""
    check_standing(standing)
    _check_corners(standing, corners, LEAST_CORNERS)
    _check_corners(standing, others, LEAST_CORNERS)
    check_label_known(standing.book, base)
    check_step(one, "one")
    check_step(other, "other")
    heap = _heap_asked(standing, one, other, [*corners, *others, base], [])
    areas = []
    for labels, part in ((corners, "corners"), (others, "others")):
        spots = [spot_of(heap, base, one, other, label) for label in labels]
        if None in spots:
            raise Unsettled(part)
        areas.append(_doubled_area_of(spots))
    if areas[1] == 0:
        raise Nothing()
    return areas[0].over(areas[1])


def plan_asked(standing, base, one, other, labels):
    """The heap of a plan; the errors of plan_of."""
    check_standing(standing)
    check_label_known(standing.book, base)
    check_step(one, "one")
    check_step(other, "other")
    _check_corners(standing, labels, 0)
    return _heap_asked(standing, one, other, [base], labels)


def metric_asked(standing, one, other):
    """The heap of two steps that are together; the errors of metric."""
    check_standing(standing)
    check_step(one, "one")
    check_step(other, "other")
    heap = _heap_asked(standing, one, other, [], [])
    if ratio_together(heap.group, one, other) is None:
        raise Unsettled("other")
    return heap


def spot_of(heap, base, one, other, label):
    """How many times one and other lead from the base to a label, at all scenes; None if it is not sure."""
    group = heap.group
    way = [rest_in_cone(heap.cone, row - start) for row, start in zip(heap.places[label], heap.places[base])]
    (v, factor), (w, mate) = way_found(group, one), way_found(group, other)
    numbers = cross(v, w)
    at = [bool(number) for number in numbers].index(True)
    # The cross of the way and one direction has only what the other step brings.
    m = times_of(turned_rows(way, w)[at], factor * numbers[at])
    n = times_of(turned_rows(way, v)[at], mate * -numbers[at])
    if m is None or n is None:
        return None
    if not all([row == factor * (m * a) + mate * (n * b) for row, a, b in zip(way, v, w)]):
        return None
    return m, n


def _check_corners(standing, labels, least):
    """NoLabel for what is no list of so many labels of the book, Twice for the first that stood ahead."""
    if not is_list(labels) or len(labels) < least:
        raise NoLabel(labels)
    for label in labels:
        check_label_known(standing.book, label)
    if (twice := first_twice(labels)) is not None:
        raise Twice(twice)


def _heap_asked(standing, one, other, ahead, behind):
    """The heap of two steps that tell a plan, and of labels passed ahead of them and behind."""
    check_part_known(standing.book, one)
    check_part_known(standing.book, other)
    check_stands(standing)
    names = [picture_of(label) for label in ahead] + [one.picture_name, other.picture_name]
    names = names + [picture_of(label) for label in behind]
    heap = heap_among(standing.heaps, names[0])
    for name in names:
        if name not in heap.names:
            raise NotJoined(names[0], name)
    for step, part in ((one, "one"), (other, "other")):
        if is_side(step) or way_found(heap.group, step) is None:
            raise Unsettled(part)
    if plane_of(heap.group, one, other) is None:
        raise Unsettled("other")
    return heap


def _even_at_eyes(flat, top, under):
    """The one quotient of two eye rows at all eyes of the flat; None if there are several."""
    eye = eye_of_flat(flat)
    number = row_at(top, eye).over(row_at(under, eye))
    return number if flat.weights_of(top - under * number) is not None else None


def _doubled_area_of(spots):
    """Twice the area of the spots, in the order round; what is told is how two areas are to each other."""
    total = Ratio(0)
    for (m, n), (next_m, next_n) in zip(spots, [*spots[1:], spots[0]]):
        total = total + (m * next_n - next_m * n)
    return abs(total)
