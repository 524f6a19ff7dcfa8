"""The sheet: directions, lines, and where plain steps meet."""

from math import gcd, lcm

from alleyes.checks import is_list
from alleyes.errors import BadNumber, BadPicture, NotPlain
from alleyes.pictures import check_picture
from alleyes.ratios import Ratio, added, triple_of
from alleyes.steps import check_step


def cross(one, other):
    """The three numbers that stand at right angles to both triples."""
    a1, a2, a3 = triple_of(one, "one")
    b1, b2, b3 = triple_of(other, "other")
    return a2 * b3 - a3 * b2, a3 * b1 - a1 * b3, a1 * b2 - a2 * b1


def determinant(one, two, three):
    """The sum of the products of the numbers of one and of the cross of two and three."""
    first = triple_of(one, "one")
    second = triple_of(two, "two")
    third = triple_of(three, "three")
    return added([number * other for number, other in zip(first, cross(second, third))])


def direction_of(numbers):
    """The direction that three numbers have: integers without a common divisor."""
    ratios = triple_of(numbers, "numbers")
    below = 1
    for ratio in ratios:
        below = lcm(below, ratio.bottom)
    whole = [ratio.top * (below // ratio.bottom) for ratio in ratios]
    shared = 0
    for number in whole:
        shared = gcd(shared, number)
    if shared == 0:
        raise BadNumber("numbers")
    return tuple([number // shared for number in whole])


def on_line(picture, labels):
    """Whether the places of these labels are on one straight line."""
    check_picture(picture)
    if not is_list(labels):
        raise BadPicture("labels")
    places = [_ray_to(picture, label) for label in labels]
    others = [place for place in places if place != places[0]]
    return all([determinant(places[0], others[0], place) == 0 for place in others])


def meet_of(picture, one, other):
    """The direction in which two plain steps of the picture meet; None if they are on one line."""
    check_picture(picture)
    check_step(one, "one")
    check_step(other, "other")
    if not one.is_plain:
        raise NotPlain("one")
    if not other.is_plain:
        raise NotPlain("other")
    numbers = cross(_plane_of(picture, one), _plane_of(picture, other))
    leading = [number.sign for number in numbers if number]
    if not leading:
        return None
    return direction_of([number * leading[0] for number in numbers])


def _ray_to(picture, label):
    """The place of a label, with 1 behind."""
    x, y = picture.place_of(label)
    return x, y, Ratio(1)


def _plane_of(picture, step):
    """What stands at right angles to the plane through 0 and both places of a plain step, with 1 behind."""
    start, end = [_ray_to(picture, label) for label, _ in step.terms]
    return cross(start, end)
