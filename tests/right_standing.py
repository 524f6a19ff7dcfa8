"""Which Ways and papers of what stands are right, reckoned in Fractions."""

from fractions import Fraction
from math import gcd

from alleyes.bowl import NoEye, Sees
from alleyes.cones import Above, Lies, NoScene
from alleyes.rows import Row
from alleyes.standing import NeverOne, Possible
from alleyes.steps import Step
from alleyes.ways import Way
from tests.bending import is_number
from tests.painting import det
from tests.right_cones import added_terms, is_strict_sum, is_zero_sum, right_lies, row_terms
from tests.right_flats import right_sees
from tests.support import value_of


def is_direction(value):
    if not isinstance(value, tuple) or len(value) != 3:
        return False
    if not all(isinstance(number, int) and not isinstance(number, bool) for number in value):
        return False
    return gcd(*value) == 1


def is_right_way(cone, form, value):
    """Whether a value is a right Way of three rows over a cone."""
    if type(value) is not Way or not is_direction(value.direction):
        return False
    if not isinstance(value.factor, Row) or not set(value.factor.labels) <= set(cone.labels):
        return False
    if not isinstance(value.sums, tuple) or len(value.sums) != 3:
        return False
    for row, number, weights in zip(form, value.direction, value.sums):
        if not is_zero_sum(cone, weights, added_terms(row_terms(row), row_terms(value.factor, -number))):
            return False
    return type(value.above) is Above and is_strict_sum(cone, value.above.parts, row_terms(value.factor))


def home_rows(picture, lines, step):
    """The home form of a step with terms, by the places and a map, as rows."""
    parts = [{}, {}, {}]
    for label, ratio in step.terms:
        x, y = picture.place_of(label)
        for at, number in enumerate((value_of(x), value_of(y), Fraction(1))):
            parts[at][label] = value_of(ratio) * number
    rows = [added_terms(*[{label: number * factor for label, number in part.items()} for part, factor in zip(parts, line)])
            for line in lines]
    return [row_of(terms) for terms in rows]


def row_of(terms):
    from tests.painting import ratio_of
    return Row({label: ratio_of(number) for label, number in terms.items()})


def right_paper(standing, value):
    """Whether a value is a right paper of a standing."""
    if standing.paper.word == "possible":
        if type(value) is not Possible or not all(isinstance(part, tuple) for part in value.parts):
            return False
        if [len(part) for part in value.parts] != [len(standing.heaps)] * 2:
            return False
        return all(type(lies) is Lies and right_lies(heap.cone, lies) and type(sees) is Sees and right_sees(heap.flat, sees)
                   for heap, lies, sees in zip(standing.heaps, *value.parts))
    if len(standing.barred) == 1:
        if type(value) is NoScene:
            return right_lies(standing.barred[0].cone, value)
        return type(value) is NoEye and right_sees(standing.barred[0].flat, value)
    return type(value) is NeverOne and right_never_one(standing, value)


def right_never_one(standing, value):
    ties, ways = value.ties, value.ways
    if not isinstance(ties, tuple) or not isinstance(ways, tuple) or len(ties) != 4 or len(ways) != 6:
        return False
    if not all(isinstance(pair, tuple) and len(pair) == 2 and all(isinstance(label, str) for label in pair) for pair in ties):
        return False
    names = [label.partition(".")[0] for label in ties[0]]
    if not all(name in standing.book.names for name in names) or names[0] == names[1]:
        return False
    if standing.book.names.index(names[0]) > standing.book.names.index(names[1]):
        return False
    heaps = [[heap for heap in standing.barred if name in heap.names] for name in names]
    if not heaps[0] or not heaps[1] or heaps[0][0].home == heaps[1][0].home:
        return False
    pairs = standing.book.pairs(*names)
    if not all(pair in pairs for pair in ties) or list(ties) != sorted(set(ties)):
        return False
    if not is_number(value.one) or not is_number(value.other):
        return False
    for side, told in enumerate((value.one, value.other)):
        heap, own = heaps[side][0], ways[3 * side:3 * side + 3]
        triples = []
        for pair, way in zip(ties[1:], own):
            step = Step.between(ties[0][side], pair[side])
            form = home_rows(standing.book.picture_of(names[side]), heap.maps[names[side]], step)
            if not is_right_way(heap.cone, form, way):
                return False
            label = own[0].factor.terms[0][0]
            times = value_of(way.factor.ratio_of(label)) / value_of(own[0].factor.ratio_of(label))
            if row_terms(own[0].factor, times) != row_terms(way.factor):
                return False
            triples.append([number * times for number in way.direction])
        if det(*triples) != value_of(told):
            return False
    signs = [(value_of(number) > 0) - (value_of(number) < 0) for number in (value.one, value.other)]
    return signs[0] != signs[1]
