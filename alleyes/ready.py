"""Boxes, whose corners tell one another; cross ratios; how far along a way a point lies."""

from alleyes.books import check_label_known, check_part_known
from alleyes.checks import first_twice, is_label, is_list, is_within, picture_of
from alleyes.cones import Above, Below, signs_of
from alleyes.errors import BadFact, BadNumber, BadText, NotJoined, Twice, Unsettled
from alleyes.facts import Null, Upright
from alleyes.fitting import plane_of
from alleyes.groups import direction_found, home_form_in
from alleyes.pictures import check_picture
from alleyes.ranges import stretch
from alleyes.ratios import Ratio
from alleyes.shapes import check_different
from alleyes.sheet import cross, on_line
from alleyes.standing import check_standing, check_stands, heap_among
from alleyes.steps import Mark, Step, check_step
from alleyes.tables import table_of, weights_in
from alleyes.terms import check_labels, check_one_picture
from alleyes.texts import end_at, word_at, words_of
from alleyes.uses import row_in_plane

CORNERS = 8
EDGES = (1, 2, 4)
NO_CORNER = "-"


class Box:
    """The labels of the corners of a box, None where one has none; what they tell, and where the others are."""

    def __init__(self, labels):
        if not is_list(labels) or len(labels) != CORNERS:
            raise BadFact("labels")
        told = [label for label in labels if label is not None]
        if len(told) == 0:
            raise BadFact("labels")
        check_labels(told)
        check_different(told)
        self.labels = tuple(labels)
        kept = _kept_corners(self.labels)
        self.facts = tuple([_corner_fact(self.labels, kept, corner) for corner in range(CORNERS)
                            if labels[corner] is not None and corner not in kept])
        self.marks = tuple([_corner_mark(self.labels, kept, corner) for corner in range(CORNERS)])

    def edge(self, number):
        """The step along an edge, from the first corner that has a mark at both its ends."""
        if not is_within(number, 0, len(EDGES) - 1):
            raise BadNumber("number")
        for start in range(CORNERS):
            end = start + EDGES[number]
            if start & EDGES[number] == 0 and self.marks[start] is not None and self.marks[end] is not None:
                return self.marks[end] - self.marks[start]
        return None

    def right_angles(self):
        """The facts that each two edges, where both are told, are at a right angle."""
        edges = [self.edge(number) for number in range(len(EDGES))]
        pairs = [(edges[0], edges[1]), (edges[0], edges[2]), (edges[1], edges[2])]
        return tuple([Upright(one, other) for one, other in pairs if one is not None and other is not None])

    def __eq__(self, other):
        return isinstance(other, Box) and self.labels == other.labels

    def __str__(self):
        return " ".join([NO_CORNER if label is None else label for label in self.labels])

    @staticmethod
    def read(text):
        """The box with this text."""
        words = words_of(text)
        labels = []
        for at in range(CORNERS):
            labels.append(_corner_at(words, at, labels))
        end_at(words, CORNERS)
        return Box(labels)


def cross_ratio(picture, p, q, r, s):
    """The cross ratio of four points; None if they are not on one line."""
    check_picture(picture)
    labels = [p, q, r, s]
    places = [picture.place_of(label) for label in labels]
    if (twice := first_twice(labels)) is not None:
        raise Twice(twice)
    if not on_line(picture, labels):
        return None
    # On a line that does not go straight up the places differ to the right.
    axis = 0 if places[0][0] != places[1][0] else 1
    at_p, at_q, at_r, at_s = [place[axis] for place in places]
    return ((at_r - at_p) * (at_s - at_q)).over((at_r - at_q) * (at_s - at_p))


def part_way(standing, label, one, other, side, mate):
    """How many times of the way from one to other the plane through label along side and mate cuts it."""
    cone, top, under = measure_asked(standing, label, one, other, side, mate)
    return stretch(cone, top, under)


def measure_asked(standing, label, one, other, side, mate):
    """The cone, and both rows of the quotient, of a measure; the errors of part_way."""
    check_standing(standing)
    for value in (label, one, other):
        check_label_known(standing.book, value)
    check_step(side, "side")
    check_step(mate, "mate")
    check_one_picture([label, one, other])
    if one == other:
        raise Twice(other)
    check_part_known(standing.book, side)
    check_part_known(standing.book, mate)
    check_stands(standing)
    heap = heap_among(standing.heaps, picture_of(label))
    for step in (side, mate):
        if step.picture_name not in heap.names:
            raise NotJoined(picture_of(label), step.picture_name)
    numbers = _plane_asked(heap.group, side, mate)
    under = row_along(heap.group, one, other, numbers)
    top = row_along(heap.group, one, label, numbers)
    return _turned_above(heap.cone, top, under)


def row_along(group, start, end, numbers):
    """The home form of the step between two labels, perhaps equal ones, its parts times three numbers, added up."""
    ends = [home_form_in(group.book, group.maps, Mark.of_point(label)) for label in (start, end)]
    return row_in_plane([row - own for own, row in zip(ends[0], ends[1])], numbers)


def _plane_asked(group, side, mate):
    """What stands at right angles to the directions of two steps."""
    if direction_found(group, side) is None:
        raise Unsettled("side")
    directions = plane_of(group, side, mate)
    if directions is None:
        raise Unsettled("mate")
    return cross(directions[0], directions[1])


def _turned_above(cone, top, under):
    """The cone, and both rows of a quotient, with the other sign if under is below."""
    signs = signs_of(cone, under)
    if type(signs) is Above:
        return cone, top, under
    if type(signs) is Below:
        return cone, -top, -under
    raise Unsettled("other")


def _corner_line(corner):
    """A corner as a sum of the base and the edges: pairs of positions and ratios."""
    bits = [1 if corner & edge != 0 else 0 for edge in EDGES]
    return [(at, Ratio(number)) for at, number in enumerate([1, *bits])]


def _weights_of_corner(kept, corner):
    """The ratios with which the kept corners add up to a corner; None if there are none."""
    table = table_of([_corner_line(other) for other in kept], len(EDGES) + 1)
    return weights_in(table, _corner_line(corner))


def _kept_corners(labels):
    """The labelled corners that are no sum of kept ones ahead."""
    kept = []
    for corner, label in enumerate(labels):
        if label is not None and _weights_of_corner(kept, corner) is None:
            kept = [*kept, corner]
    return kept


def _sum_of_corner(labels, kept, corner):
    """The terms of the sum of kept corners that is the corner."""
    weights = _weights_of_corner(kept, corner)
    return {labels[other]: weight for other, weight in zip(kept, weights)}


def _corner_fact(labels, kept, corner):
    """The fact that a corner less its sum is nothing; kept ones behind it are not in this, as there is one sum."""
    terms = {label: -weight for label, weight in _sum_of_corner(labels, kept, corner).items()}
    return Null(Step({**terms, labels[corner]: 1}))


def _corner_mark(labels, kept, corner):
    """The mark of a corner, by its label or by a sum of kept ones; None if none tells it."""
    if labels[corner] is not None:
        return Mark.of_point(labels[corner])
    if _weights_of_corner(kept, corner) is None:
        return None
    return Mark(_sum_of_corner(labels, kept, corner))


def _corner_at(words, at, ahead):
    """The label, or None, that stands there, behind those ahead of it."""
    word = word_at(words, at)
    told = [label for label in ahead if label is not None]
    if word == NO_CORNER:
        if at == CORNERS - 1 and len(told) == 0:
            raise BadText(0, at)
        return None
    if not is_label(word) or word in told or picture_of(word) != picture_of([*told, word][0]):
        raise BadText(0, at)
    return word
