"""Marks that are made of seen points: what lies further on, between, or as much higher."""

from alleyes.checks import is_integer
from alleyes.errors import BadNumber
from alleyes.ratios import Ratio, check_ratio
from alleyes.steps import Mark
from alleyes.terms import check_labels, check_one_picture, joined_terms


def nth(one, other, number):
    """Where so many steps like that from one to other lead from one."""
    check_labels([one, other])
    if not is_integer(number):
        raise BadNumber("number")
    check_one_picture([one, other])
    return Mark.on_way(one, other, number)


def middle(one, other):
    """The middle of two points."""
    check_labels([one, other])
    check_one_picture([one, other])
    return Mark.on_way(one, other, Ratio(1, 2))


def carried(top, foot, other):
    """The top of a thing like that from foot to top, at another foot."""
    check_labels([top, foot, other])
    check_one_picture([top, foot, other])
    return _added_up([(top, 1), (foot, -1), (other, 1)])


def grid_mark(corner, one, other, m, n):
    """The corner, m times the step to one and n times that to other."""
    check_labels([corner, one, other])
    check_ratio(m, "m")
    check_ratio(n, "n")
    check_one_picture([corner, one, other])
    return _added_up([(corner, Ratio(1) - m - n), (one, m), (other, n)])


def _added_up(pairs):
    """The mark of labels, each so many times."""
    terms = {}
    for label, times in pairs:
        terms = joined_terms(list(terms.items()), [(label, Ratio.of(times))], 1)
    return Mark(terms)
