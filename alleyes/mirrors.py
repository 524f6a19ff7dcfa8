"""Mirrors: marks slid along a ray into a plane, and mirrored in it."""

from alleyes.books import check_label_known, check_part_known
from alleyes.checks import picture_of
from alleyes.drawn import drawn_form
from alleyes.errors import NotJoined, TwoPictures, Unsettled
from alleyes.forms import form_of
from alleyes.groups import direction_found
from alleyes.maps import map_back, mapped
from alleyes.sheet import cross, determinant
from alleyes.standing import check_standing, check_stands, heap_among
from alleyes.steps import Mark, check_mark, check_step
from alleyes.uses import row_in_plane


def slid(standing, mark, base, one, other, ray):
    """The form of a mark slid along a ray into the plane through a base along two steps."""
    return _moved_form(standing, mark, base, [(one, "one"), (other, "other"), (ray, "ray")], 1)


def mirrored(standing, mark, base, one, other, upright):
    """The form of a mark mirrored in the plane through a base along two steps, to which a third one is upright."""
    return _moved_form(standing, mark, base, [(one, "one"), (other, "other"), (upright, "upright")], 2)


def slid_place(standing, mark, base, one, other, ray):
    """Where a mark slid along a ray is drawn."""
    form = slid(standing, mark, base, one, other, ray)
    return drawn_form(standing, mark.picture_name, form)


def mirrored_place(standing, mark, base, one, other, upright):
    """Where a mirrored mark is drawn."""
    form = mirrored(standing, mark, base, one, other, upright)
    return drawn_form(standing, mark.picture_name, form)


def _moved_form(standing, mark, base, steps, times):
    """The form of a mark, moved along the third direction so many times the way to the plane."""
    heap = _heap_asked(standing, mark, base, steps)
    name = mark.picture_name
    back = map_back(heap.maps[name])
    one, other, ray = [mapped(back, _direction_asked(heap, step, part)) for step, part in steps]
    size = determinant(one, other, ray)
    if size == 0:
        raise Unsettled(steps[-1][1])
    picture = standing.book.picture_of(name)
    form, start = form_of(picture, mark), form_of(picture, Mark.of_point(base))
    numbers = [number.over(size) for number in cross(one, other)]
    height = row_in_plane([row - own for row, own in zip(form, start)], numbers)
    return tuple([row - height * (number * times) for row, number in zip(form, ray)])


def _heap_asked(standing, mark, base, steps):
    """The heap of a mark, a base and three steps; the errors ahead of those of settling."""
    check_standing(standing)
    check_mark(mark, "mark")
    check_label_known(standing.book, base)
    for step, part in steps:
        check_step(step, part)
    check_part_known(standing.book, mark)
    for step, _ in steps:
        check_part_known(standing.book, step)
    if picture_of(base) != mark.picture_name:
        raise TwoPictures(mark.picture_name, picture_of(base))
    check_stands(standing)
    heap = heap_among(standing.heaps, mark.picture_name)
    for step, _ in steps:
        if step.picture_name not in heap.names:
            raise NotJoined(mark.picture_name, step.picture_name)
    return heap


def _direction_asked(heap, step, part):
    """The direction of a settled step."""
    direction = direction_found(heap.group, step)
    if direction is None:
        raise Unsettled(part)
    return direction
