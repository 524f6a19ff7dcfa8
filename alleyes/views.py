"""Views: from where, along which axes, and through which sheet an eye looks."""

from alleyes.errors import BadView
from alleyes.eyes import Eye
from alleyes.ratios import Ratio, added, is_positive, ratios_of, triple_of
from alleyes.sheet import determinant
from alleyes.solids import added_places

RIGHT_AXIS = (1, 0, 0)
UP_AXIS = (0, 1, 0)
AHEAD_AXIS = (0, 0, 1)


class View:
    """A place in space, three axes at right angles, the foot of the eye on the sheet, and its distance from there."""

    def __init__(self, place, right, up, ahead, foot, distance):
        self.place = _numbers_in(place, 3, "place")
        self.right = _numbers_in(right, 3, "right")
        self.up = _numbers_in(up, 3, "up")
        self.ahead = _numbers_in(ahead, 3, "ahead")
        self.foot = _numbers_in(foot, 2, "foot")
        if not is_positive(distance):
            raise BadView("distance")
        self.distance = Ratio.of(distance)
        _check_axes(self.right, self.up, self.ahead)

    def __eq__(self, other):
        return isinstance(other, View) and _parts_of(self) == _parts_of(other)

    def numbers_of(self, place):
        """How far to the right, up and ahead of the view a place in space lies, by its axes."""
        spot = triple_of(place, "place")
        way = [number - own for number, own in zip(spot, self.place)]
        return tuple([plain_product(way, axis).over(plain_product(axis, axis))
                      for axis in (self.right, self.up, self.ahead)])

    def moved(self, by):
        """The view from another place."""
        place = added_places(self.place, triple_of(by, "by"))
        return View(place, self.right, self.up, self.ahead, self.foot, self.distance)

    def framed(self, foot, distance):
        """The view with another foot and distance."""
        return View(self.place, self.right, self.up, self.ahead, foot, distance)

    @staticmethod
    def level(place, foot, distance):
        """The view along the axes of space themselves."""
        return View(place, RIGHT_AXIS, UP_AXIS, AHEAD_AXIS, foot, distance)


def eye_of(view):
    """The Eye of a view."""
    check_view(view)
    a, b = view.foot
    return Eye(a, b, a * a + b * b + view.distance * view.distance)


def plain_product(one, other):
    """The products of the numbers of two triples, added up."""
    return added([number * mate for number, mate in zip(one, other)])


def check_view(value):
    """BadView for what is no view."""
    if not isinstance(value, View):
        raise BadView("view")


def _parts_of(view):
    return view.place, view.right, view.up, view.ahead, view.foot, view.distance


def _numbers_in(value, many, part):
    """The Ratios of an argument of so many."""
    ratios = ratios_of(value, many)
    if ratios is None:
        raise BadView(part)
    return ratios


def _check_axes(right, upward, ahead):
    """BadView for axes that are not at right angles, of equal lengths above 0, or that go the wrong way round."""
    for one, other in ((right, upward), (upward, ahead), (ahead, right)):
        if plain_product(one, other) != 0 or plain_product(one, one) != plain_product(other, other):
            raise BadView("axes")
    if plain_product(right, right) == 0:
        raise BadView("axes")
    if determinant(right, upward, ahead).sign < 0:
        raise BadView("ahead")
