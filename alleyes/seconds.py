"""Seconds: eyes of several pictures of one heap, which tell one another."""

from alleyes.books import Book, check_picture_name
from alleyes.bowl import eyes_around
from alleyes.errors import BadEye, NotJoined
from alleyes.eyes import Eye, check_eye
from alleyes.flats import Flat, row_at
from alleyes.forms import product
from alleyes.highest import one_eye
from alleyes.links import heaps_asked, lines_between
from alleyes.maps import columns_of
from alleyes.papers import Denial, Paper
from alleyes.ratios import Ratio
from alleyes.standing import check_standing, check_stands, heap_among, stand
from alleyes.uses import look_rows_of


class SecondEye(Paper):
    """The one eye of a picture."""

    def __init__(self, a, b, s):
        super().__init__("secondeye", a, b, s)
        self.a, self.b, self.s = self.parts


class Several(Denial):
    """Two different eyes of a picture."""

    def __init__(self, one, other):
        super().__init__("several", one, other)
        self.one, self.other = self.parts


def look_rows(standing, one, other):
    """The two look rows of a picture, seen from another one."""
    return tuple(look_rows_of(_map_to_first(standing, one, other)))


def is_one_look(standing, one, other):
    """Whether both look rows are nothing."""
    return all([row.is_nothing for row in look_rows(standing, one, other)])


def is_new_look(standing, name):
    """Whether a picture is alone in its heap, or its own eye rows make the rank of the heap's flat greater."""
    check_standing(standing)
    check_picture_name(standing.book, name)
    check_stands(standing)
    if len(heap_among(standing.heaps, name).names) == 1:
        return True
    book = standing.book
    others = [picture for picture in book.pictures if picture.name != name]
    heap = heap_among(stand(Book([*others, book.picture_of(name)], book.facts)).heaps, name)
    lines = [line for line, source in zip(heap.flat.lines, heap.eye_sources) if source[0] != name]
    return heap.flat.rank > Flat(lines).rank


def mate_eye(standing, eye, one, other):
    """The mate in a picture of an eye of another one."""
    check_standing(standing)
    check_eye(eye)
    lines = _map_to_first(standing, one, other)
    mate = mate_by(lines, (eye.a, eye.b, eye.s))
    if mate is None:
        raise BadEye("mate")
    a, b, s = mate
    return Eye(a, b, s)


def second_eye(standing, name):
    """The SecondEye of a picture whose heap has one eye, otherwise a Several."""
    lines, flat = second_asked(standing, name)
    found = one_eye(flat)
    if found is not None:
        a, b, s = mate_by(lines, (found.a, found.b, found.s))
        return SecondEye(a, b, s)
    one, other = [mate_by(lines, eye) for eye in eyes_around(flat)[:2]]
    return Several(one, other)


def second_asked(standing, name):
    """The map from a picture to the home of its heap, and the flat of eyes of this home; the errors of second_eye."""
    check_standing(standing)
    check_picture_name(standing.book, name)
    check_stands(standing)
    heap = heap_among(standing.heaps, name)
    return heap.maps[name], heap.flat


def mate_by(lines, eye):
    """The triple of the mate of an eye, by the map from the mate's picture to the eye's; None if it has none."""
    if not all([row_at(row, eye) == 0 for row in look_rows_of(lines)]):
        return None
    right, upward, ahead = columns_of(lines)
    a, b, s = eye
    place = Eye(a, b, s)
    times = Ratio(1).over(product(right, right, place))
    return (product(right, ahead, place) * -times, product(upward, ahead, place) * -times,
            product(ahead, ahead, place) * times)


def _map_to_first(standing, one, other):
    """The map from the second of two pictures to the first one; the errors of look_rows."""
    heap, _ = heaps_asked(standing, one, other)
    if other not in heap.names:
        raise NotJoined(one, other)
    return lines_between(heap, other, one)
