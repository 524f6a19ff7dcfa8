"""Pictures: points with places on a sheet."""

from alleyes.checks import first_twice, is_label, is_list, is_name
from alleyes.errors import BadNumber, BadPicture, BadText, NoLabel, NoName, SamePlace, TooMany, Twice
from alleyes.ratios import check_ratio, is_positive, ratio_at, ratios_of
from alleyes.texts import end_at, word_at, words_of

MOST_POINTS = 40


class Picture:
    """A name, and points by names, each at a place of its own."""

    def __init__(self, name, points):
        if not is_name(name):
            raise BadPicture("name")
        if not _are_points(points):
            raise BadPicture("points")
        self.name = name
        self.names = tuple(sorted(points))
        self.labels = tuple([f"{name}.{point}" for point in self.names])
        self.places = tuple([ratios_of(points[point], 2) for point in self.names])
        _check_places(self.names, self.places)
        if len(self.names) > MOST_POINTS:
            raise TooMany("points", MOST_POINTS)

    def place_of(self, label):
        """The place of the point with this label."""
        if label not in self:
            raise NoLabel(label)
        return dict(zip(self.labels, self.places))[label]

    def __len__(self):
        return len(self.labels)

    def __iter__(self):
        return iter(self.labels)

    def __contains__(self, value):
        return is_label(value) and value in self.labels

    def __eq__(self, other):
        if not isinstance(other, Picture):
            return False
        return self.name == other.name and self.names == other.names and self.places == other.places

    def portion(self, names):
        """The picture of just the points with these names."""
        if not is_list(names) or len(names) == 0:
            raise BadPicture("names")
        for name in names:
            if not is_name(name) or name not in self.names:
                raise NoName(name)
        if (twice := first_twice(names)) is not None:
            raise Twice(twice)
        places = dict(zip(self.names, self.places))
        return Picture(self.name, {name: places[name] for name in names})

    def moved(self, u, v):
        """The picture moved to the right by u, up by v."""
        check_ratio(u, "u")
        check_ratio(v, "v")
        return _with_places(self, [(x + u, y + v) for x, y in self.places])

    def enlarged(self, m):
        """The picture m times as large."""
        if not is_positive(m):
            raise BadNumber("m")
        return _with_places(self, [(x * m, y * m) for x, y in self.places])

    def turned(self):
        """The picture turned by a quarter, its right upward."""
        return _with_places(self, [(-y, x) for x, y in self.places])

    def mirrored(self):
        """The picture with right and left for one another."""
        return _with_places(self, [(-x, y) for x, y in self.places])

    def renamed(self, name, names=None):
        """The picture with another name, and, unless names is None, with the points' names that it tells."""
        if not is_name(name):
            raise BadPicture("name")
        newer = {elder: elder for elder in self.names} if names is None else names
        if not _are_new_names(newer, self.names):
            raise BadPicture("names")
        if (twice := first_twice([newer[elder] for elder in self.names])) is not None:
            raise Twice(twice)
        return Picture(name, {newer[elder]: place for elder, place in zip(self.names, self.places)})

    def __str__(self):
        return f"{self.name} : {_points_text(self)}"

    @staticmethod
    def read(text):
        """The picture with this text."""
        words = words_of(text)
        picture, behind = picture_at(words, 0)
        end_at(words, behind)
        return picture


def picture_at(words, at):
    """The picture that words from at on write, and the index behind it."""
    name = word_at(words, at)
    if not is_name(name):
        raise BadText(0, at)
    if word_at(words, at + 1) != ":":
        raise BadText(0, at + 1)
    points, behind = _points_in(words, at + 2)
    return Picture(name, points), behind


def check_picture(value):
    """BadPicture for what is no picture."""
    if not isinstance(value, Picture):
        raise BadPicture("picture")


def _are_points(value):
    """Whether any value is a dict of one or more names with places."""
    if not isinstance(value, dict) or len(value) == 0:
        return False
    return all([is_name(name) and ratios_of(value[name], 2) is not None for name in value])


def _are_new_names(value, names):
    """Whether any value is a dict from just these names to names."""
    if not isinstance(value, dict) or len(value) != len(names):
        return False
    return all([name in value and is_name(value[name]) for name in names])


def _spot(place):
    """A place as a key."""
    x, y = place
    return x.top, x.bottom, y.top, y.bottom


def _check_places(names, places):
    """SamePlace for the first of the points whose place stood ahead."""
    ahead = {}
    for name, place in zip(names, places):
        spot = _spot(place)
        if spot in ahead:
            raise SamePlace(ahead[spot], name)
        ahead[spot] = name


def _with_places(picture, places):
    """The picture with other places for its points."""
    return Picture(picture.name, dict(zip(picture.names, places)))


def _points_text(picture):
    """Each point's name and place, a / between two of them."""
    return " / ".join([f"{name} {x} {y}" for name, (x, y) in zip(picture.names, picture.places)])


def _points_in(words, start):
    """The points that words from start on write, a / between two of them, and the index behind."""
    points, spots = {}, {}
    before, at = "", start
    while True:
        name = word_at(words, at)
        if not is_name(name) or name <= before:
            raise BadText(0, at)
        place = (ratio_at(words, at + 1), ratio_at(words, at + 2))
        if _spot(place) in spots:
            raise BadText(0, at + 2)
        points[name] = place
        spots[_spot(place)] = True
        before, at = name, at + 3
        if at == len(words) or words[at] != "/" or len(points) == MOST_POINTS:
            return points, at
        at = at + 1
