"""Peaks: over which foot, and how high, the triples of a flat reach above the bowl in which eyes lie.

The height s - A A - B B of a triple of the flat either can be as great as one likes over one foot, or is the greatest
at just one triple, the peak. There the directions in which the height changes the most and the left sides meet: the
height stays the same, at first, along each way that lies in the flat.
"""

from alleyes.flats import EyeRow
from alleyes.ratios import Ratio
from alleyes.tables import leads_of

ONE_PLACE = 3


def has_no_triple(flat):
    """Whether the one row is a sum of the lines, so that not even a triple makes all of them 0."""
    return flat.table.makers[ONE_PLACE] is not None


def is_upward(flat):
    """Whether no line tells of s, so that over a foot each s will do."""
    return all([line.c == 0 for line in flat.lines])


def foot_of(flat):
    """A foot (a, b) at which all lines that do not tell of s are 0."""
    found = [Ratio(0), Ratio(0)]
    for line in flat.reduced:
        # Of both places, those that lead no line are taken as 0.
        if line.a == 1:
            found[0] = -line.g
        else:
            found[1] = -line.g
    return tuple(found)


def peak_of(flat):
    """The triple of the greatest height of a flat that has triples, and is not upward."""
    peak = flat.narrowed([EyeRow(a * -2, b * -2, 0, s) for a, b, s in ways_in(flat)])
    return tuple([-line.g for line in peak.reduced])


def ways_in(flat):
    """Triples by which one goes on from triple to triple in a flat: as many as its rank is less than 3."""
    lines = [line.left for line in flat.reduced]
    leads = leads_of(flat.table)
    ways = []
    for free in range(ONE_PLACE):
        if free not in leads:
            way = [Ratio(1 if place == free else 0) for place in range(ONE_PLACE)]
            for lead, numbers in zip(leads, lines):
                way[lead] = -numbers[free]
            ways.append(tuple(way))
    return ways
