"""Links: what one picture of a heap tells of another one, and why two pictures are of two heaps."""

from alleyes.books import check_part_known, check_picture_name
from alleyes.drawn import drawn_form
from alleyes.errors import BadStep, NotJoined, Unsettled
from alleyes.groups import direction_found, is_side
from alleyes.joining import has_settled_four
from alleyes.maps import columns_of, map_back, map_behind, mapped
from alleyes.papers import Denial, Paper
from alleyes.ratios import Ratio
from alleyes.sheet import direction_of
from alleyes.standing import check_standing, check_stands, form_in_heap, heap_among, place_in
from alleyes.steps import Mark, Step, check_mark, check_step

FOUR = 4


class Joined(Paper):
    """The map between two pictures of one heap: its three rows."""

    def __init__(self, lines):
        super().__init__("joined", lines)
        self.lines = self.parts[0]


class Apart(Denial):
    """Why two pictures are of two heaps."""

    def __init__(self, why):
        super().__init__("apart", why)
        self.why = self.parts[0]


def map_between(standing, one, other):
    """The Joined of two pictures of one heap, the Apart of two of two heaps."""
    heap, mate = heaps_asked(standing, one, other)
    if other in heap.names:
        return Joined(lines_between(heap, one, other))
    pairs = standing.book.pairs(one, other)
    if len(pairs) < FOUR:
        return Apart("few")
    return Apart("plane" if has_settled_four(pairs, (heap.group, mate.group)) else "waits")


def direction_in(standing, step, name):
    """The direction of a settled step in the forms of a picture."""
    check_standing(standing)
    check_step(step, "step")
    heap = _heap_of_both(standing, step, name)
    direction = direction_found(heap.group, step)
    if direction is None:
        raise Unsettled("step")
    return direction_of(mapped(map_back(heap.maps[name]), direction))


def form_in(standing, value, name):
    """The form of a mark, or of a step with terms, in a picture: three rows."""
    check_standing(standing)
    if not isinstance(value, (Step, Mark)) or is_side(value):
        raise BadStep("value")
    heap = _heap_of_both(standing, value, name)
    lines = heap.maps[name]
    if isinstance(value, Step):
        return _taken_back(lines, form_in_heap(standing, value))
    here = Mark.of_point(standing.book.picture_of(name).labels[0])
    # The place of the eye of a picture is that of any label of it less the home form of the label.
    eye = [place - own for place, own in zip(heap.places[here.terms[0][0]], form_in_heap(standing, here))]
    return _taken_back(lines, [place - row for place, row in zip(place_in(standing, value), eye)])


def drawn_in(standing, mark, name):
    """Where a mark is drawn in a picture of its heap."""
    check_standing(standing)
    check_mark(mark, "mark")
    return drawn_form(standing, name, form_in(standing, mark, name))


def heaps_asked(standing, one, other):
    """The heaps of two pictures; the errors of map_between."""
    check_standing(standing)
    check_picture_name(standing.book, one)
    check_picture_name(standing.book, other)
    check_stands(standing)
    return heap_among(standing.heaps, one), heap_among(standing.heaps, other)


def lines_between(heap, one, other):
    """The map from one picture of a heap to another one."""
    return map_behind(map_back(heap.maps[other]), heap.maps[one])


def _heap_of_both(standing, value, name):
    """The heap of a step or a mark, and of a picture."""
    check_picture_name(standing.book, name)
    check_part_known(standing.book, value)
    check_stands(standing)
    heap = heap_among(standing.heaps, value.picture_name)
    if name not in heap.names:
        raise NotJoined(value.picture_name, name)
    return heap


def _taken_back(lines, form):
    """Three rows, taken by the inverse itself of a map."""
    back = map_back(lines)
    # The map back has no common divisor; behind the map it is a multiple of what changes nothing.
    times = mapped(back, columns_of(lines)[0])[0]
    return tuple([row * Ratio(1).over(times) for row in mapped(back, form)])
