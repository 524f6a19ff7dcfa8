"""Uses: by which directions a fact is used in a heap, and which rows it gives then."""

from alleyes.flats import product_row
from alleyes.maps import columns_of, content_of, mapped
from alleyes.ratios import Ratio
from alleyes.rows import Row
from alleyes.sheet import cross, direction_of

TURNING = ("along", "sameway")


class Use:
    """A fact of a number, used in a round.

    directions are those of home forms that give its rows, targets the steps that get rows, ratio the c of lengths;
    above tells the round of the above row, the step that gets it, and the direction that gives it, None ahead of it.
    """

    def __init__(self, number, fact, stage, directions=(), targets=(), ratio=None, above=None):
        self.number = number
        self.fact = fact
        self.stage = stage
        self.directions = directions
        self.targets = targets
        self.ratio = ratio
        self.above = above


def with_above(use, stage, step, direction):
    """The use with its above row."""
    return Use(use.number, use.fact, use.stage, use.directions, use.targets, use.ratio, (stage, step, direction))


def carried(use, lines):
    """The use in other home forms, to which a map takes those of before."""
    above = use.above
    if above is not None:
        stage, step, direction = above
        above = (stage, step, taken_direction(lines, direction))
    directions = tuple([taken_direction(lines, direction) for direction in use.directions])
    ratio = use.ratio
    if ratio is not None:
        # The factors grow by what the directions lose.
        one, other = [_shared_in(lines, direction) for direction in use.directions]
        ratio = ratio * Ratio(one, other)
    return Use(use.number, use.fact, use.stage, directions, use.targets, ratio, above)


def taken_direction(lines, direction):
    """The direction to which a map takes a direction."""
    return direction_of(mapped(lines, direction))


def zero_rows_of(use, forms):
    """The zero rows that the fact gives; forms are the home forms of the targets."""
    if use.fact.word == "null":
        return list(forms[0])
    if use.fact.word in TURNING:
        return [row for form in forms for row in turned_rows(form, use.directions[0])]
    if use.fact.word == "inplane":
        one, other = use.directions
        return [row_in_plane(forms[0], cross(one, other))]
    return []


def turned_rows(form, direction):
    """The cross of a form and a direction, three rows."""
    d1, d2, d3 = form
    v1, v2, v3 = direction
    return d2 * v3 - d3 * v2, d3 * v1 - d1 * v3, d1 * v2 - d2 * v1


def row_in_plane(form, numbers):
    """The parts of a form, each times its number, added up."""
    total = Row({})
    for row, number in zip(form, numbers):
        total = total + row * number
    return total


def above_row_of(form, direction):
    """The part of a form by that of the direction, where this is first not 0."""
    return [row * Ratio(1, number) for row, number in zip(form, direction) if number != 0][0]


def eye_rows_of(use, maps):
    """The eye rows that the fact gives, by the maps of its heap."""
    fact = use.fact
    if fact.word == "upright":
        one, other = use.directions
        return [product_row(one, other)]
    if fact.word == "lengths":
        one, other = use.directions
        return [lengths_row(one, other, use.ratio, fact)]
    if fact.word == "foot":
        right, upward, ahead = columns_of(maps[fact.name])
        return [product_row(right, ahead) + product_row(right, right) * fact.a,
                product_row(upward, ahead) + product_row(upward, upward) * fact.b]
    if fact.word == "far":
        right, _, ahead = columns_of(maps[fact.name])
        return [product_row(ahead, ahead) - product_row(right, right) * fact.s]
    return []


def lengths_row(one, other, ratio, told):
    """The eye row of the lengths of two steps, by their directions and c, and by the p and q that are told."""
    return product_row(one, one) * (told.q * ratio * ratio) - product_row(other, other) * told.p


def look_rows_of(lines):
    """The two eye rows that each picture but the home gives, by its map."""
    right, upward, _ = columns_of(lines)
    return [product_row(right, upward), product_row(right, right) - product_row(upward, upward)]


def _shared_in(lines, direction):
    """How many times a direction a map makes of a direction."""
    return content_of([ratio.top for ratio in mapped(lines, direction)])
