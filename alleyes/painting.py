"""Painting: what views show of a solid, as pictures, depths and books."""

from alleyes.books import Book
from alleyes.checks import is_name
from alleyes.errors import BadFact, BadView, Behind, NoPicture, Twice
from alleyes.facts import Tie, are_facts
from alleyes.pictures import Picture
from alleyes.scenes import Scene
from alleyes.solids import check_solid
from alleyes.views import View, check_view


def painted(solid, view, name):
    """The picture of all corners."""
    return Picture(name, {corner: _place_seen(view, numbers) for corner, numbers in _numbers_seen(solid, view, name)})


def scene_of(solid, view, name):
    """The scene of the depths of all corners."""
    return Scene({f"{name}.{corner}": ahead.over(view.distance)
                  for corner, (_, _, ahead) in _numbers_seen(solid, view, name)})


def ties_of(solid, one, other):
    """The ties of the points of all corners in two pictures."""
    check_solid(solid)
    _check_name(one)
    _check_name(other)
    if one == other:
        raise Twice(one)
    return tuple([Tie(f"{one}.{corner}", f"{other}.{corner}") for corner in solid.names])


def book_of(solid, views, facts=()):
    """The book of all pictures, tied to the first one, and of the facts."""
    check_solid(solid)
    check_views(views)
    if not are_facts(facts):
        raise BadFact("facts")
    names = sorted(views)
    pictures = [painted(solid, views[name], name) for name in names]
    ties = [tie for name in names[1:] for tie in ties_of(solid, names[0], name)]
    return Book(pictures, [*ties, *facts])


def check_views(value):
    """BadView for what is no dict from one or more names to views."""
    if not isinstance(value, dict) or len(value) == 0:
        raise BadView("views")
    if not all([is_name(name) and isinstance(value[name], View) for name in value]):
        raise BadView("views")


def _numbers_seen(solid, view, name):
    """Each corner's name, and its numbers in the view; the errors of painted."""
    check_solid(solid)
    check_view(view)
    _check_name(name)
    seen = [(corner, view.numbers_of(spot)) for corner, spot in solid.corners]
    for corner, (_, _, ahead) in seen:
        if ahead.sign <= 0:
            raise Behind(corner)
    return seen


def _place_seen(view, numbers):
    """Where a corner with these numbers is painted."""
    right, upward, ahead = numbers
    times = view.distance.over(ahead)
    a, b = view.foot
    return a + right * times, b + upward * times


def _check_name(value):
    if not is_name(value):
        raise NoPicture(value)
