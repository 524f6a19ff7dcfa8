"""Solids: corners with places in space."""

from alleyes.checks import first_twice, is_list, is_name
from alleyes.errors import BadNumber, BadSolid, NoName, TooMany, Twice
from alleyes.ratios import is_positive, ratios_of, triple_of

MOST_CORNERS = 40


class Solid:
    """Corners by names, each with a place in space."""

    def __init__(self, corners):
        if not _are_corners(corners):
            raise BadSolid("corners")
        self.names = tuple(sorted(corners))
        self.corners = tuple([(name, ratios_of(corners[name], 3)) for name in self.names])
        if len(self.names) > MOST_CORNERS:
            raise TooMany("corners", MOST_CORNERS)

    def spot_of(self, name):
        """The place of the corner of this name."""
        if name not in self:
            raise NoName(name)
        return dict(self.corners)[name]

    def __len__(self):
        return len(self.names)

    def __iter__(self):
        return iter(self.names)

    def __contains__(self, value):
        return is_name(value) and value in self.names

    def __eq__(self, other):
        return isinstance(other, Solid) and self.corners == other.corners

    def portion(self, names):
        """The solid of just the corners with these names."""
        if not is_list(names) or len(names) == 0:
            raise BadSolid("names")
        spots = [self.spot_of(name) for name in names]
        if (twice := first_twice(names)) is not None:
            raise Twice(twice)
        return Solid(dict(zip(names, spots)))

    def moved(self, by):
        """The solid with each corner moved by a triple."""
        way = triple_of(by, "by")
        return Solid({name: added_places(spot, way) for name, spot in self.corners})

    def enlarged(self, place, m):
        """The solid with each corner m times as far from a place, the same way."""
        centre = triple_of(place, "place")
        if not is_positive(m):
            raise BadNumber("m")
        spots = [[at + (own - at) * m for own, at in zip(spot, centre)] for _, spot in self.corners]
        return Solid(dict(zip(self.names, spots)))


def check_solid(value):
    """BadSolid for what is no solid."""
    if not isinstance(value, Solid):
        raise BadSolid("solid")


def added_places(one, other):
    """Two places, or steps in space, added up."""
    return tuple([number + more for number, more in zip(one, other)])


def _are_corners(value):
    """Whether any value is a dict of one or more names with places in space."""
    if not isinstance(value, dict) or len(value) == 0:
        return False
    return all([is_name(name) and ratios_of(value[name], 3) is not None for name in value])
