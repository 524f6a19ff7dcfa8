"""Lamps: how many times as high as a post a lamp is."""

from alleyes.books import check_label_known
from alleyes.checks import picture_of
from alleyes.errors import Unsettled
from alleyes.groups import way_found
from alleyes.ranges import stretch
from alleyes.standing import check_standing, check_stands, heap_among
from alleyes.steps import Step
from alleyes.terms import check_one_picture


def lamp_times(standing, foot, post, end):
    """How many times as high as a post a lamp is, by their feet and the end of the post's shadow."""
    cone, top, under = times_asked(standing, foot, post, end)
    return stretch(cone, top, under)


def times_asked(standing, foot, post, end):
    """The cone, and both factors of the quotient; the errors of lamp_times."""
    check_standing(standing)
    for label in (foot, post, end):
        check_label_known(standing.book, label)
    check_one_picture([foot, post, end])
    steps = [Step.between(end, foot), Step.between(end, post)]
    check_stands(standing)
    heap = heap_among(standing.heaps, picture_of(foot))
    ways = [way_found(heap.group, step) for step in steps]
    for way, part in zip(ways, ("foot", "post")):
        if way is None:
            raise Unsettled(part)
    (direction, top), (other, under) = ways
    if direction != other:
        raise Unsettled("end")
    return heap.cone, top, under
