"""Which papers of cones are right, reckoned in Fractions, without the package's sums and signs."""

from fractions import Fraction

from alleyes.cones import Above, AllZero, Below, Lies, Mixed, NeverAll, NoScene, Some, Zero
from alleyes.ranges import Even, Stretch
from tests.bending import is_number
from tests.support import total_of, value_of


def dict_of(cone, value):
    """Pairs of different labels of the cone and ratios from 0 on, as a dict of Fractions; None for anything else."""
    if not isinstance(value, tuple):
        return None
    found = {}
    for pair in value:
        if not isinstance(pair, tuple) or len(pair) != 2:
            return None
        label, depth = pair
        if not isinstance(label, str) or label not in cone.labels or label in found:
            return None
        if not is_number(depth) or value_of(depth) < 0:
            return None
        found[label] = value_of(depth)
    return found


def numbers_of(value, many):
    if not isinstance(value, tuple) or len(value) != many or not all(is_number(item) for item in value):
        return None
    return [value_of(item) for item in value]


def is_scene(cone, value):
    depths = dict_of(cone, value)
    if depths is None or sorted(depths) != list(cone.labels) or min(depths.values()) <= 0:
        return False
    return all(total_of(row, depths) == 0 for row in cone.zeros) and all(
        total_of(row, depths) > 0 for row in cone.aboves)


def is_ray(cone, depths):
    if not depths or not any(depths.values()):
        return False
    return all(total_of(row, depths) == 0 for row in cone.zeros) and all(
        total_of(row, depths) >= 0 for row in cone.aboves)


def row_terms(row, times=1):
    return {label: value_of(ratio) * times for label, ratio in row.terms}


def added_terms(*parts):
    total = {}
    for part in parts:
        for label, number in part.items():
            total[label] = total.get(label, Fraction(0)) + number
    return {label: number for label, number in total.items() if number}


def is_zero_sum(cone, weights, terms):
    numbers = numbers_of(weights, len(cone.zeros))
    if numbers is None:
        return False
    return added_terms(*[row_terms(row, number) for row, number in zip(cone.zeros, numbers)]) == added_terms(terms)


def is_strict_sum(cone, parts, terms, zeros=None):
    """Whether weights, lifts and depths are a strict sum that reads the terms."""
    zeros = cone.zeros if zeros is None else zeros
    weights, lifts, depths = numbers_of(parts[0], len(zeros)), numbers_of(parts[1], len(cone.aboves)), None
    depths = dict_of(cone, parts[2])
    if weights is None or lifts is None or depths is None or any(number < 0 for number in lifts):
        return False
    if not any(lifts) and not any(depths.values()):
        return False
    rows = [row_terms(row, number) for row, number in zip([*zeros, *cone.aboves], [*weights, *lifts])]
    return added_terms(depths, *rows) == added_terms(terms)


def right_lies(cone, value):
    if type(value) is Lies:
        return is_scene(cone, value.depths)
    return type(value) is NoScene and is_strict_sum(cone, value.parts, {})


def right_signs(cone, row, value):
    if type(value) is Zero:
        return is_zero_sum(cone, value.weights, row_terms(row))
    if type(value) is Above:
        return is_strict_sum(cone, value.parts, row_terms(row))
    if type(value) is Below:
        return is_strict_sum(cone, value.parts, row_terms(row, -1))
    if type(value) is not Mixed or not all(is_scene(cone, part) for part in value.parts):
        return False
    low, zero, high = [total_of(row, dict(part)) for part in value.parts]
    return low < 0 and zero == 0 and high > 0


def right_signs_of_rows(cone, rows, value):
    if type(value) is AllZero:
        return isinstance(value.weights, tuple) and len(value.weights) == len(rows) and all(
            is_zero_sum(cone, weights, row_terms(row)) for weights, row in zip(value.weights, rows))
    if type(value) is NeverAll:
        return is_strict_sum(cone, value.parts, {}, [*cone.zeros, *rows])
    if type(value) is not Some or not all(is_scene(cone, part) for part in value.parts):
        return False
    zero, apart = dict(value.zero), dict(value.apart)
    return all(total_of(row, zero) == 0 for row in rows) and any(total_of(row, apart) != 0 for row in rows)


def right_stretch(cone, top, under, value):
    if type(value) not in (Even, Stretch):
        return False
    if type(value.above) is not Above or not is_strict_sum(cone, value.above.parts, row_terms(under)):
        return False
    if type(value) is Even:
        return is_number(value.number) and is_zero_sum(
            cone, value.weights, added_terms(row_terms(top), row_terms(under, -value_of(value.number))))
    return right_end(cone, top, under, value.low, value.low_end, 1) and right_end(
        cone, top, under, value.high, value.high_end, -1)


def right_end(cone, top, under, number, end, side):
    if not isinstance(end, tuple) or len(end) != 2:
        return False
    paper, told = end
    ray = dict_of(cone, told)
    if ray is None or not is_ray(cone, ray):
        return False
    high, deep = total_of(top, ray) * side, total_of(under, ray)
    if number is None:
        return paper is None and deep == 0 and high < 0
    if not is_number(number) or deep <= 0 or high != value_of(number) * deep * side:
        return False
    excess = added_terms(row_terms(top, side), row_terms(under, -side * value_of(number)))
    return type(paper) is Above and is_strict_sum(cone, paper.parts, excess)
