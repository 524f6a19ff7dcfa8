"""Boxes in space that several pictures show, each from an eye of its own; and own sums of what links these pictures."""

from fractions import Fraction

from alleyes.books import Book
from alleyes.facts import Tie
from alleyes.shapes import tile_facts
from alleyes.standing import stand
from tests.painting import box_nulls, cross, cube_world, det, minus, true_ties
from tests.support import value_of


def linked_world(source, names=("one", "two"), straight=False):
    """A world of a box, its book, in which all pictures are told to be of a box, and its standing."""
    world = cube_world(source, names, straight)
    facts = [fact for name in names for fact in box_nulls(world, name)] + true_ties(world)
    return world, stand(Book(world.pictures(), facts))


def half_seen(source):
    """A world whose second picture lacks two corners, g and h; two tiles settle the edges there, four ties join."""
    world = cube_world(source, ("one", "two"))
    world.seen["two"] = list("abcdef")
    facts = box_nulls(world, "one") + [*tile_facts("two.a", "two.b", "two.d", "two.c"), *tile_facts("two.a", "two.b", "two.f", "two.e")]
    return world, stand(Book(world.pictures(), facts + [Tie(f"one.{letter}", f"two.{letter}") for letter in "abce"]))


def space_lines(look):
    """The rows that make of a vector in space the form of its step."""
    columns = [look.form(axis) for axis in ((1, 0, 0), (0, 1, 0), (0, 0, 1))]
    return [[column[row] for column in columns] for row in range(3)]


def inverse(lines):
    size = det(*lines)
    rows = (cross(lines[1], lines[2]), cross(lines[2], lines[0]), cross(lines[0], lines[1]))
    return [[rows[column][row] / size for column in range(3)] for row in range(3)]


def multiplied(one, other):
    return [[sum(one[row][k] * other[k][column] for k in range(3)) for column in range(3)] for row in range(3)]


def true_map(world, one, other):
    """The map from one picture to other, as it is in space, up to a factor."""
    return multiplied(space_lines(world.looks[other]), inverse(space_lines(world.looks[one])))


def factor_of(lines, others):
    """How many times the nine numbers of others those of lines are; None if they are not one such number above 0."""
    pairs = [(Fraction(number), Fraction(other)) for line, mate in zip(lines, others) for number, other in zip(line, mate)]
    if any(bool(number) != bool(other) for number, other in pairs):
        return None
    found = {number / other for number, other in pairs if other}
    return found.pop() if len(found) == 1 and min(found) > 0 else None


def product_at(one, other, eye):
    """The product of two triples at an eye."""
    a, b, s = eye
    return (one[0] * other[0] + one[1] * other[1] - a * (one[0] * other[2] + one[2] * other[0])
            - b * (one[1] * other[2] + one[2] * other[1]) + s * one[2] * other[2])


def columns(lines):
    return [tuple(Fraction(line[at]) for line in lines) for at in range(3)]


def mate_of(lines, eye):
    """The mate of an eye, by the map from the mate's picture to the eye's; None if a look row is not 0."""
    eye = tuple(value_of(number) for number in eye)
    r, u, z = columns(lines)
    if product_at(r, u, eye) != 0 or product_at(r, r, eye) != product_at(u, u, eye):
        return None
    size = product_at(r, r, eye)
    return -product_at(r, z, eye) / size, -product_at(u, z, eye) / size, product_at(z, z, eye) / size


def rank(rows):
    """The rank of some lists of numbers."""
    left, found = [[value_of(number) for number in row] for row in rows], 0
    for column in range(len(left[0]) if left else 0):
        lead = next((row for row in left if row[column]), None)
        if lead is not None:
            found += 1
            left = [[a - b * row[column] / lead[column] for a, b in zip(row, lead)] for row in left if row is not lead]
    return found


def form_in_world(look, spot):
    """The form, at the painted depths, of a point at a spot in space."""
    return look.form(minus(spot, look.place))
