"""Where marks are drawn: a sure place, a spread one, at some scenes alone, or nowhere."""

from alleyes.books import check_part_known, check_picture_name
from alleyes.checks import is_list, picture_of
from alleyes.cones import Above, Mixed, signs_of
from alleyes.errors import BadMark, BadRow, NotJoined
from alleyes.forms import form_of
from alleyes.papers import Denial, Paper
from alleyes.ranges import Even, stretch
from alleyes.rows import are_rows, check_labels_known
from alleyes.standing import check_standing, check_stands, heap_among
from alleyes.steps import check_mark
from alleyes.terms import check_one_picture


class Drawn(Paper):
    """A sure place, and the Evens of both its numbers."""

    def __init__(self, x, y, x_even, y_even):
        super().__init__("drawn", x, y, x_even, y_even)
        self.x, self.y, self.x_even, self.y_even = self.parts


class Spread(Paper):
    """What is told of both numbers of a place, not both of which are even."""

    def __init__(self, x_range, y_range):
        super().__init__("spread", x_range, y_range)
        self.x_range, self.y_range = self.parts


class Sometimes(Paper):
    """Three scenes, at which the mark is behind the eye, beside it, before it."""

    def __init__(self, below, zero, above):
        super().__init__("sometimes", below, zero, above)
        self.below, self.zero, self.above = self.parts


class Hidden(Denial):
    """The Zero or the Below of the third row of a form."""

    def __init__(self, signs):
        super().__init__("hidden", signs)
        self.signs = self.parts[0]


def drawn(standing, mark):
    """Where a mark is drawn in its picture."""
    cone, form = mark_asked(standing, mark)
    return _seen(cone, form)


def seen_from(standing, place, mark):
    """Where an eye at the mark place sees a mark."""
    cone, form = step_asked(standing, place, mark)
    return _seen(cone, form)


def drawn_form(standing, name, form):
    """Where a mark of this picture with this form is drawn."""
    return _seen(cone_asked(standing, name, form), form)


def mark_asked(standing, mark):
    """The cone of a mark's heap, and its form; the errors of drawn."""
    check_standing(standing)
    check_mark(mark, "mark")
    check_part_known(standing.book, mark)
    check_stands(standing)
    return _cone_and_form(standing, mark)


def step_asked(standing, place, mark):
    """The cone of the heap of two marks, and the form of the step between them; the errors of seen_from."""
    check_standing(standing)
    check_mark(place, "place")
    check_mark(mark, "mark")
    check_part_known(standing.book, place)
    check_part_known(standing.book, mark)
    check_one_picture([place.terms[0][0], mark.terms[0][0]])
    if place == mark:
        raise BadMark("mark")
    check_stands(standing)
    cone, form = _cone_and_form(standing, mark)
    _, start = _cone_and_form(standing, place)
    return cone, tuple([row - own for row, own in zip(form, start)])


def cone_asked(standing, name, form):
    """The cone of the heap of a picture, over whose labels the form is; the errors of drawn_form."""
    check_standing(standing)
    check_picture_name(standing.book, name)
    if not is_list(form) or len(form) != 3 or not are_rows(form):
        raise BadRow("form")
    check_labels_known(form, standing.book.labels)
    check_stands(standing)
    heap = heap_among(standing.heaps, name)
    for row in form:
        for label in row.labels:
            if picture_of(label) not in heap.names:
                raise NotJoined(name, picture_of(label))
    return heap.cone


def _cone_and_form(standing, mark):
    """The cone of the heap of a mark, and its form in its own picture."""
    name = mark.picture_name
    return heap_among(standing.heaps, name).cone, form_of(standing.book.picture_of(name), mark)


def _seen(cone, form):
    """What is told of a form by the signs of its third row."""
    across, upward, ahead = form
    signs = signs_of(cone, ahead)
    if type(signs) is Mixed:
        return Sometimes(signs.below, signs.zero, signs.above)
    if type(signs) is not Above:
        return Hidden(signs)
    x_range, y_range = stretch(cone, across, ahead), stretch(cone, upward, ahead)
    if type(x_range) is Even and type(y_range) is Even:
        return Drawn(x_range.number, y_range.number, x_range, y_range)
    return Spread(x_range, y_range)
