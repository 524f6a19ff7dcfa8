"""Groups: pictures of one heap, their maps, and all rows that used facts and ties give."""

from alleyes.cones import Cone
from alleyes.flats import Flat
from alleyes.forms import form_of
from alleyes.maps import SAME, columns_of, content_of, mapped
from alleyes.ratios import Ratio
from alleyes.sheet import direction_of, meet_of
from alleyes.steps import RIGHT, Mark
from alleyes.ties import tied_pairs
from alleyes.uses import above_row_of, eye_rows_of, look_rows_of, taken_direction, zero_rows_of
from alleyes.ways import settled_in


class Group:
    """Pictures with maps to the forms of the first one, the facts used of them, their cone and their flat."""

    def __init__(self, book, names, maps, uses):
        self.book = book
        self.names = tuple(names)
        self.maps = maps
        by_number = {use.number: use for use in uses}
        self.uses = [by_number[number] for _, number in sorted([(use.stage, use.number) for use in uses])]
        self.places, bases = _places_of(book, self.names, maps)
        told = _told_zeros(self) + _tied_zeros(self, bases)
        aboves = _told_aboves(self)
        lines = _told_lines(self) + _look_lines(self)
        self.sources = tuple([source for source, _ in told])
        self.above_sources = tuple([source for source, _ in aboves])
        self.eye_sources = tuple([source for source, _ in lines])
        self.cone = Cone(list(self.places), [row for _, row in told], [row for _, row in aboves])
        self.flat = Flat([row for _, row in lines])
        self.settled = {}


def home_form_in(book, maps, value):
    """The home form of a step or a mark: three rows, of right and up three integers."""
    lines = maps[value.picture_name]
    form = form_of(book.picture_of(value.picture_name), value)
    if lines == SAME:
        return form
    if is_side(value):
        return columns_of(lines)[0 if value.side == RIGHT else 1]
    return mapped(lines, form)


def is_side(value):
    """Whether a step or a mark is a right or an up."""
    return len(value.terms) == 0


def way_found(group, step):
    """The direction and the factor, None of right and up, of a step of the group; None if it is not settled."""
    key = str(step)
    if key not in group.settled:
        group.settled[key] = _way_sought(group, step)
    return group.settled[key]


def direction_found(group, step):
    """The direction of a step of the group, None if it is not settled."""
    found = way_found(group, step)
    return None if found is None else found[0]


def ratio_together(group, one, other):
    """How many times the factor of other that of one is; None if they are not together."""
    if is_side(one) or is_side(other):
        return side_ratio(group.maps, one, other)
    found, mate = way_found(group, one), way_found(group, other)
    if found is None or mate is None:
        return None
    return times_of(found[1], mate[1])


def side_ratio(maps, one, other):
    """The c of two steps, one or both of which are a right or an up; None if they are not together."""
    if not is_side(one) or not is_side(other) or one.picture_name != other.picture_name:
        return None
    right, upward, _ = columns_of(maps[one.picture_name])
    contents = [content_of(right if step.side == RIGHT else upward) for step in (one, other)]
    return Ratio(contents[0], contents[1])


def times_of(row, other):
    """How many times another row, which is not nothing, a row is; None if it is none such."""
    label, ratio = other.terms[0]
    times = row.ratio_of(label).over(ratio)
    return times if other * times == row else None


def meet_in(group, one, other):
    """The direction of the home form of the meet of two steps; None unless they are plain, and meet."""
    if one.picture_name != other.picture_name or not one.is_plain or not other.is_plain:
        return None
    meet = meet_of(group.book.picture_of(one.picture_name), one, other)
    return None if meet is None else taken_direction(group.maps[one.picture_name], meet)


def _way_sought(group, step):
    form = home_form_in(group.book, group.maps, step)
    if is_side(step):
        return direction_of(form), None
    return settled_in(group.cone, form)


def _places_of(book, names, maps):
    """The places of all labels of the pictures, and the base of each picture but the home."""
    forms = {label: home_form_in(book, maps, Mark.of_point(label)) for name in names
             for label in book.picture_of(name).labels}
    places = {label: forms[label] for label in book.picture_of(names[0]).labels}
    bases, left = [], list(names[1:])
    while left:
        name, base = _first_based(book, places, left)
        bases.append(base)
        left = [other for other in left if other != name]
        start, own = base
        for label in book.picture_of(name).labels:
            places[label] = tuple([at + form - own_form for at, form, own_form
                                   in zip(places[start], forms[label], forms[own])])
    return {label: places[label] for label in sorted(places)}, bases


def _first_based(book, places, left):
    """The first picture of those left that has a pair with a placed label, and this pair, its base."""
    for name in left:
        pairs = sorted(tied_pairs(book.points, sorted(places), name))
        if pairs:
            return name, pairs[0]
    return None


def _told_zeros(group):
    """The zero rows of the used facts, each behind its source."""
    found = []
    for use in group.uses:
        forms = [home_form_in(group.book, group.maps, step) for step in use.targets]
        rows = zero_rows_of(use, forms)
        found = found + [((use.number, at), row) for at, row in enumerate(rows)]
    return found


def _tied_zeros(group, bases):
    """The rows by which two tied labels have one place, each behind its source; not those of the bases."""
    points = group.book.points
    pairs = [(label, tied) for label in group.places for tied in points.get(label, ())
             if label < tied and tied in group.places]
    based = [tuple(sorted(base)) for base in bases]
    return [((*pair, at), one - other) for pair in pairs if pair not in based
            for at, (one, other) in enumerate(zip(group.places[pair[0]], group.places[pair[1]]))]


def _told_aboves(group):
    """The above rows of the used facts, each behind its source."""
    due = {use.number: use.above for use in group.uses if use.above is not None}
    found = []
    for _, number in sorted([(due[number][0], number) for number in due]):
        _, step, direction = due[number]
        form = home_form_in(group.book, group.maps, step)
        found.append(((number, 3), above_row_of(form, direction)))
    return found


def _told_lines(group):
    """The eye rows of the used facts, each behind its source."""
    return [((use.number, at), row) for use in group.uses for at, row in enumerate(eye_rows_of(use, group.maps))]


def _look_lines(group):
    """The eye rows of the pictures but the home, each behind its source."""
    return [((name, at), row) for name in group.names[1:]
            for at, row in enumerate(look_rows_of(group.maps[name]))]
