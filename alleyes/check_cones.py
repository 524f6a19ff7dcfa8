"""Whether papers of cones are right, by adding, multiplying and comparing alone."""

from alleyes.cones import Above, AllZero, Below, Lies, Mixed, NeverAll, NoScene, Some, Zero
from alleyes.cones import check_cone, check_cone_row, check_cone_rows, is_scene_of
from alleyes.checks import is_label
from alleyes.ranges import Even, Stretch, check_rows_of_quotient
from alleyes.ratios import Ratio, is_ratio
from alleyes.rows import Row, check_labels_known, value_at
from alleyes.terms import joined_terms


def shows_lies(cone, value):
    """Whether value is a right Lies or NoScene."""
    check_cone(cone)
    if type(value) is Lies:
        return _is_scene(cone, value.depths)
    return type(value) is NoScene and _is_strict_sum(cone, value, Row({}))


def shows_signs(cone, row, value):
    """Whether value is a right Zero, Above, Below or Mixed."""
    check_cone_row(cone, row, "row")
    check_labels_known([row], cone.labels)
    if type(value) is Zero:
        return _is_zero_sum(cone, value.weights, row)
    if type(value) is Above:
        return _is_strict_sum(cone, value, row)
    if type(value) is Below:
        return _is_strict_sum(cone, value, -row)
    return type(value) is Mixed and _is_mixed(cone, row, value)


def shows_signs_of_rows(cone, rows, value):
    """Whether value is a right AllZero, Some or NeverAll."""
    check_cone_rows(cone, rows)
    if type(value) is AllZero:
        return _are_zero_sums(cone, rows, value.weights)
    if type(value) is Some:
        return _is_some(cone, rows, value)
    return type(value) is NeverAll and _is_strict_sum(cone.narrowed(rows), value, Row({}))


def shows_stretch(cone, top, under, value):
    """Whether value is a right Even or Stretch."""
    check_rows_of_quotient(cone, top, under)
    if type(value) is Even:
        return is_ratio(value.number) and _is_above(cone, under, value.above) and _is_zero_sum(
            cone, value.weights, top - under * value.number)
    if type(value) is not Stretch or not _is_above(cone, under, value.above):
        return False
    if not _is_end(cone, top, under, value.low, value.low_end):
        return False
    high = -Ratio.of(value.high) if is_ratio(value.high) else value.high
    return _is_end(cone, -top, under, high, value.high_end)


def _is_end(cone, top, under, number, end):
    """Whether a pair shows that a number, None for no bound, is the lower end of the quotients."""
    if not isinstance(end, tuple) or len(end) != 2:
        return False
    paper, told = end
    if not _are_depths(cone, told) or not _is_ray(cone, dict(told)):
        return False
    ray = dict(told)
    # Depths that are all 0 are no ray; top and under would be 0 there, which is refused below.
    if number is None:
        return paper is None and value_at(under, ray) == 0 and value_at(top, ray).sign < 0
    if not is_ratio(number) or value_at(under, ray).sign <= 0:
        return False
    excess = top - under * number
    return value_at(excess, ray) == 0 and _is_above(cone, excess, paper)


def _is_above(cone, row, value):
    """Whether value is a right Above of the row."""
    return type(value) is Above and _is_strict_sum(cone, value, row)


def _is_zero_sum(cone, weights, row):
    """Whether the zero rows, times these weights, add up to the row."""
    if not _are_as_many(weights, len(cone.zeros)):
        return False
    return _read(cone.zeros, weights, {}) == row


def _are_zero_sums(cone, rows, value):
    """Whether there are weights for each row with which the zero rows add up to it."""
    if not isinstance(value, tuple) or len(value) != len(rows):
        return False
    return all([_is_zero_sum(cone, weights, row) for weights, row in zip(value, rows)])


def _is_strict_sum(cone, value, row):
    """Whether the weights, lifts and depths of a paper are a strict sum that reads the row."""
    if not _are_as_many(value.weights, len(cone.zeros)) or not _are_as_many(value.lifts, len(cone.aboves)):
        return False
    if not _are_from_0(value.lifts) or not _are_depths(cone, value.depths):
        return False
    depths = dict(value.depths)
    if not [number for number in [*value.lifts, *[depths[label] for label in depths]] if number != 0]:
        return False
    return _read([*cone.zeros, *cone.aboves], [*value.weights, *value.lifts], depths) == row


def _is_mixed(cone, row, value):
    """Whether the parts of a Mixed are scenes at which the row is below 0, 0, above 0."""
    if not all([_is_scene(cone, depths) for depths in value.parts]):
        return False
    return [value_at(row, dict(depths)).sign for depths in value.parts] == [-1, 0, 1]


def _is_some(cone, rows, value):
    """Whether the parts of a Some are a scene at which all rows are 0, and one at which some row is not."""
    if not _is_scene(cone, value.zero) or not _is_scene(cone, value.apart):
        return False
    zero, apart = dict(value.zero), dict(value.apart)
    return all([value_at(row, zero) == 0 for row in rows]) and not all([value_at(row, apart) == 0 for row in rows])


def _is_scene(cone, value):
    """Whether a part is a scene of the cone."""
    return _are_depths(cone, value) and is_scene_of(cone, dict(value))


def _is_ray(cone, depths):
    """Whether each zero row is 0 at depths from 0 on, and each above row from 0 on."""
    if not all([value_at(row, depths) == 0 for row in cone.zeros]):
        return False
    return all([value_at(row, depths).sign >= 0 for row in cone.aboves])


def _are_depths(cone, value):
    """Whether a part is pairs of different labels of the cone and ratios from 0 on."""
    if not isinstance(value, tuple) or not all([_is_depth(cone, pair) for pair in value]):
        return False
    return len({label: True for label, _ in value}) == len(value)


def _is_depth(cone, pair):
    """Whether any value is a pair of a label of the cone and a ratio from 0 on."""
    if not isinstance(pair, tuple) or len(pair) != 2:
        return False
    label, depth = pair
    return is_label(label) and label in cone.labels and is_ratio(depth) and Ratio.of(depth).sign >= 0


def _are_as_many(value, many):
    """Whether a part is as many ratios."""
    return isinstance(value, tuple) and len(value) == many and all([is_ratio(item) for item in value])


def _are_from_0(ratios):
    return all([Ratio.of(ratio).sign >= 0 for ratio in ratios])


def _read(rows, times, depths):
    """The row that adds up the rows, each so many times, and each label times its depth."""
    terms = dict(depths)
    for row, ratio in zip(rows, times):
        terms = joined_terms(list(terms.items()), row.terms, ratio)
    return Row(terms)
