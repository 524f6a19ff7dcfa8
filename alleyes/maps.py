"""Maps: three rows of integers, which take the forms of one picture to those of another one."""

from math import gcd

from alleyes.checks import is_integer, is_list
from alleyes.errors import BadNumber
from alleyes.ratios import Ratio, ratios_of
from alleyes.rows import Row, are_rows
from alleyes.sheet import cross, determinant

SAME = ((1, 0, 0), (0, 1, 0), (0, 0, 1))


def mapped(lines, form):
    """Three ratios, or three rows, taken by a map."""
    _check_map(lines, "lines")
    if is_list(form) and len(form) == 3 and are_rows(form):
        return tuple([_row_taken(numbers, form) for numbers in lines])
    ratios = ratios_of(form, 3)
    if ratios is None:
        raise BadNumber("form")
    return tuple([_dotted(numbers, ratios) for numbers in lines])


def map_taking(others, ones):
    """The map that takes three triples to multiples of three other ones; None if there is none."""
    sources = _triples_of(others, "others")
    targets = _triples_of(ones, "ones")
    signs = [_determinant_of(sources).sign, _determinant_of(targets).sign]
    if signs[0] * signs[1] <= 0:
        return None
    # The crosses of the sources are the rows of their inverse, but for a factor of the sign of their determinant.
    backs = _crosses_of(sources)
    lines = [[_dotted([target[row] for target in targets], [back[column] for back in backs]) * signs[0]
              for column in range(3)] for row in range(3)]
    return _map_of(lines)


def map_behind(one, other):
    """The map that does what other does, then what one does."""
    _check_map(one, "one")
    _check_map(other, "other")
    columns = [[row[at] for row in other] for at in range(3)]
    return _map_of([[_dotted(row, column) for column in columns] for row in one])


def map_back(lines):
    """The map that takes back what a map does."""
    _check_map(lines, "lines")
    crosses = _crosses_of(lines)
    return _map_of([[line[at] for line in crosses] for at in range(3)])


def columns_of(lines):
    """What a map makes of (1, 0, 0), of (0, 1, 0), and of (0, 0, 1): triples of integers."""
    return tuple([tuple([row[at] for row in lines]) for at in range(3)])


def content_of(numbers):
    """The greatest common divisor of some integers."""
    shared = 0
    for number in numbers:
        shared = gcd(shared, number)
    return shared


def _check_map(value, part):
    """BadNumber for what is no list or tuple of three of three integers, of a determinant above 0."""
    if not is_list(value) or len(value) != 3 or not all([_is_line(line) for line in value]):
        raise BadNumber(part)
    if _determinant_of(value).sign <= 0:
        raise BadNumber(part)


def _is_line(value):
    return is_list(value) and len(value) == 3 and all([is_integer(number) for number in value])


def _triples_of(value, part):
    """Three triples of Ratios of an argument."""
    if not is_list(value) or len(value) != 3:
        raise BadNumber(part)
    triples = [ratios_of(triple, 3) for triple in value]
    if None in triples:
        raise BadNumber(part)
    return triples


def _determinant_of(triples):
    first, second, third = triples
    return determinant(first, second, third)


def _crosses_of(triples):
    """The cross of each two triples that follow one another in the round."""
    first, second, third = triples
    return [cross(second, third), cross(third, first), cross(first, second)]


def _dotted(numbers, ratios):
    """The sum of the products of three ratios or integers each, a Ratio."""
    total = Ratio(0)
    for number, ratio in zip(numbers, ratios):
        total = total + Ratio.of(number) * ratio
    return total


def _row_taken(numbers, form):
    """The rows of a form, each times its number, added up."""
    total = Row({})
    for number, row in zip(numbers, form):
        total = total + row * number
    return total


def _map_of(lines):
    """The map of these nine ratios, as integers without a common divisor."""
    below = 1
    for line in lines:
        for ratio in line:
            below = below * ratio.bottom // gcd(below, ratio.bottom)
    whole = [[ratio.top * (below // ratio.bottom) for ratio in line] for line in lines]
    shared = content_of([number for line in whole for number in line])
    return tuple([tuple([number // shared for number in line]) for line in whole])
