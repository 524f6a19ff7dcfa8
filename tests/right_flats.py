"""Which papers of flats are right, reckoned in Fractions, without the package's sums and signs."""

from fractions import Fraction

from alleyes.bowl import AboveEyes, BelowEyes, MixedEyes, NoEye, Sees, ZeroEyes
from alleyes.highest import Highest, Upward
from tests.bending import is_number
from tests.support import value_of


def numbers_of(value, many):
    if not isinstance(value, tuple) or len(value) != many or not all(is_number(item) for item in value):
        return None
    return [value_of(item) for item in value]


def four(row):
    return [value_of(number) for number in (row.a, row.b, row.c, row.g)]


def at(row, triple):
    return sum(number * other for number, other in zip(four(row), [*triple, 1]))


def is_eye(flat, value):
    triple = numbers_of(value, 3)
    if triple is None or triple[2] <= triple[0] ** 2 + triple[1] ** 2:
        return False
    return all(at(line, triple) == 0 for line in flat.lines)


def adds_up(lines, weights, wanted):
    numbers = numbers_of(weights, len(lines))
    if numbers is None:
        return False
    total = [Fraction(0)] * 4
    for line, number in zip(lines, numbers):
        total = [sum_so_far + number * other for sum_so_far, other in zip(total, four(line))]
    return total == wanted


def circle(a, b, t):
    return [-2 * a, -2 * b, 1, a * a + b * b + t]


def is_bar(lines, parts):
    if not isinstance(parts, tuple) or len(parts) != 4:
        return False
    if parts[1:] == (None, None, None):
        return adds_up(lines, parts[0], [0, 0, 0, 1])
    numbers = numbers_of(parts[1:], 3)
    return numbers is not None and numbers[2] >= 0 and adds_up(lines, parts[0], circle(*numbers))


def right_sees(flat, value):
    if type(value) is Sees:
        return is_eye(flat, value.parts)
    return type(value) is NoEye and is_bar(flat.lines, value.parts)


def right_eye_signs(flat, row, value):
    if type(value) is ZeroEyes:
        return adds_up(flat.lines, value.weights, four(row))
    if type(value) in (AboveEyes, BelowEyes):
        if not is_eye(flat, value.eye) or not is_bar([*flat.lines, row], value.bar):
            return False
        number = at(row, numbers_of(value.eye, 3))
        return number > 0 if type(value) is AboveEyes else number < 0
    if type(value) is not MixedEyes or not all(is_eye(flat, part) for part in value.parts):
        return False
    low, zero, high = [at(row, numbers_of(part, 3)) for part in value.parts]
    return low < 0 and zero == 0 and high > 0


def right_highest(flat, value):
    if type(value) is Highest:
        if not is_eye(flat, value.parts[:3]):
            return False
        a, b, s = numbers_of(value.parts[:3], 3)
        return adds_up(flat.lines, value.weights, circle(a, b, a * a + b * b - s))
    if type(value) is not Upward or numbers_of(value.parts, 2) is None:
        return False
    a, b = numbers_of(value.parts, 2)
    return all(four(line)[2] == 0 and at(line, [a, b, 0]) == 0 for line in flat.lines)


def plain_parts(paper):
    """All numbers and Nones in the parts of a paper."""
    found, left = [], [paper.parts]
    while left:
        part = left.pop()
        if isinstance(part, tuple):
            left.extend(part)
        else:
            found.append(part)
    return found
