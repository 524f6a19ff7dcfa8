"""Whether papers of eyes are right, by adding, multiplying and comparing alone."""

from alleyes.bowl import AboveEyes, BelowEyes, MixedEyes, NoEye, Sees, ZeroEyes
from alleyes.eyes import height_over, is_over
from alleyes.flats import EyeRow, are_zero_at, check_flat, check_flat_row, circle_row, one_row, row_at
from alleyes.highest import Highest, Upward
from alleyes.ratios import Ratio, ratios_of


def shows_sees(flat, value):
    """Whether value is a right Sees or NoEye."""
    check_flat(flat)
    if type(value) is Sees:
        return is_eye_in(flat, value.parts)
    return type(value) is NoEye and _is_bar(flat, value.parts)


def shows_eye_signs(flat, row, value):
    """Whether value is a right ZeroEyes, AboveEyes, BelowEyes or MixedEyes."""
    check_flat_row(flat, row)
    if type(value) is ZeroEyes:
        return adds_up(flat, value.weights, row)
    if type(value) is AboveEyes:
        return _are_eyes(flat, row, [value.eye], [1]) and _is_bar(flat.narrowed([row]), value.bar)
    if type(value) is BelowEyes:
        return _are_eyes(flat, row, [value.eye], [-1]) and _is_bar(flat.narrowed([row]), value.bar)
    return type(value) is MixedEyes and _are_eyes(flat, row, value.parts, [-1, 0, 1])


def shows_highest(flat, value):
    """Whether value is a right Highest or Upward."""
    check_flat(flat)
    if type(value) is Highest:
        a, b, s, weights = value.parts
        return is_eye_in(flat, (a, b, s)) and adds_up(flat, weights, circle_row(a, b, -height_over(a, b, s)))
    return type(value) is Upward and _is_upward(flat, value.parts)


def is_eye_in(flat, value):
    """Whether any value is the triple of an eye of the flat."""
    numbers = ratios_of(value, 3)
    if numbers is None:
        return False
    a, b, s = numbers
    return is_over(a, b, s) and are_zero_at(flat, numbers)


def adds_up(flat, weights, row):
    """Whether the lines, times weights, add up to the row."""
    ratios = ratios_of(weights, len(flat.lines))
    if ratios is None:
        return False
    total = EyeRow(0, 0, 0, 0)
    for line, ratio in zip(flat.lines, ratios):
        total = total + line * ratio
    return total == row


def _is_upward(flat, foot):
    """Whether all lines are 0 over a foot, whatever s is."""
    numbers = ratios_of(foot, 2)
    if numbers is None or not all([line.c == 0 for line in flat.lines]):
        return False
    a, b = numbers
    return are_zero_at(flat, (a, b, Ratio(0)))


def _are_eyes(flat, row, values, signs):
    """Whether values are triples of eyes of the flat, at which the row has these signs."""
    if not all([is_eye_in(flat, value) for value in values]):
        return False
    return [row_at(row, ratios_of(value, 3)).sign for value in values] == signs


def _is_bar(flat, value):
    """Whether any value is the four parts of a right NoEye of the flat."""
    if not isinstance(value, tuple) or len(value) != 4:
        return False
    weights, a, b, t = value
    if a is None and b is None and t is None:
        return adds_up(flat, weights, one_row())
    if ratios_of((a, b, t), 3) is None or Ratio.of(t).sign < 0:
        return False
    return adds_up(flat, weights, circle_row(a, b, t))
