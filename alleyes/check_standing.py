"""Whether Ways and the papers of what stands are right, by adding, multiplying and comparing alone."""

from alleyes.books import check_part_known
from alleyes.bowl import NoEye, Sees
from alleyes.check_cones import shows_lies, shows_signs
from alleyes.check_eyes import shows_sees
from alleyes.checks import is_integer, is_label, picture_of
from alleyes.cones import Above, Lies, NoScene, Zero
from alleyes.groups import home_form_in, is_side, times_of
from alleyes.ratios import Ratio
from alleyes.rows import Row
from alleyes.sheet import determinant, direction_of
from alleyes.standing import NeverOne, Possible, check_standing, check_stands, form_in_heap, heap_among
from alleyes.steps import Step, check_step
from alleyes.ways import Way

FOUR = 4


def shows_way(standing, step, value):
    """Whether value is a right Way of the step, with any factor that fits."""
    check_standing(standing)
    check_step(step, "step")
    check_part_known(standing.book, step)
    check_stands(standing)
    heap = heap_among(standing.heaps, step.picture_name)
    return _is_way(heap, form_in_heap(standing, step), is_side(step), value)


def shows_paper(standing, value):
    """Whether value is a right paper of what stands."""
    check_standing(standing)
    if type(value) is Possible:
        return standing.is_possible and _is_possible(standing.heaps, value)
    if len(standing.barred) == 1:
        heap = standing.barred[0]
        if type(value) is NoScene:
            return shows_lies(heap.cone, value)
        return type(value) is NoEye and shows_sees(heap.flat, value)
    return len(standing.barred) == 2 and type(value) is NeverOne and _is_never_one(standing, value)


def _is_way(heap, form, is_told, value):
    """Whether value is a right Way of a home form in the heap."""
    if type(value) is not Way or not _is_direction(value.direction):
        return False
    if is_told:
        return value == Way(direction_of(form), None, (), None)
    if not _is_row_of(heap, value.factor) or not _are_three(value.sums):
        return False
    lefts = [row - value.factor * number for row, number in zip(form, value.direction)]
    if not all([shows_signs(heap.cone, left, Zero(weights)) for left, weights in zip(lefts, value.sums)]):
        return False
    return type(value.above) is Above and shows_signs(heap.cone, value.factor, value.above)


def _is_direction(value):
    """Whether any value is three integers, not all 0, without a common divisor."""
    if not _are_three(value) or not all([is_integer(number) for number in value]):
        return False
    return any([number != 0 for number in value]) and direction_of(value) == value


def _are_three(value):
    return isinstance(value, tuple) and len(value) == 3


def _is_row_of(heap, value):
    """Whether any value is a row over labels of the heap."""
    return isinstance(value, Row) and all([label in heap.cone.labels for label in value.labels])


def _is_possible(heaps, value):
    """Whether the parts of a Possible are a right Lies and a right Sees for each heap."""
    if not _are_as_many(value.scenes, heaps) or not _are_as_many(value.eyes, heaps):
        return False
    for heap, scene, eye in zip(heaps, value.scenes, value.eyes):
        if type(scene) is not Lies or not shows_lies(heap.cone, scene):
            return False
        if type(eye) is not Sees or not shows_sees(heap.flat, eye):
            return False
    return True


def _are_as_many(value, heaps):
    return isinstance(value, tuple) and len(value) == len(heaps)


def _is_never_one(standing, value):
    """Whether the parts of a NeverOne show that both barred heaps can't be one."""
    if not _are_four_ties(standing, value.ties):
        return False
    if not isinstance(value.ways, tuple) or len(value.ways) != 2 * (FOUR - 1):
        return False
    told = [value.one, value.other]
    halves = [value.ways[:FOUR - 1], value.ways[FOUR - 1:]]
    for side, (number, ways) in enumerate(zip(told, halves)):
        labels = [pair[side] for pair in value.ties]
        if not _are_ways_from(standing, labels, ways) or _determinant_by(ways) != number:
            return False
    one, other = told
    return Ratio.of(one).sign != Ratio.of(other).sign


def _are_four_ties(standing, value):
    """Whether any value is four tied pairs, ascending, of a picture of each of both barred heaps."""
    if not isinstance(value, tuple) or len(value) != FOUR or not all([_is_pair(pair) for pair in value]):
        return False
    one, other = [picture_of(label) for label in value[0]]
    names = standing.book.names
    if one not in names or other not in names or names.index(one) > names.index(other):
        return False
    homes = [_barred_of(standing, one), _barred_of(standing, other)]
    if None in homes or homes[0] == homes[1]:
        return False
    pairs = standing.book.pairs(one, other)
    spots = [pairs.index(pair) for pair in value if pair in pairs]
    return len(spots) == FOUR and spots == sorted({spot: True for spot in spots})


def _is_pair(value):
    return isinstance(value, tuple) and len(value) == 2 and all([is_label(label) for label in value])


def _barred_of(standing, name):
    """The home of the barred heap of the picture of this name; None if it has none."""
    homes = [heap.home for heap in standing.barred if name in heap.names]
    return homes[0] if homes else None


def _are_ways_from(standing, labels, ways):
    """Whether these are right Ways of the steps from the first label to the others, with factors that are multiples."""
    heap = heap_among(standing.barred, picture_of(labels[0]))
    for label, way in zip(labels[1:], ways):
        step = Step.between(labels[0], label)
        if not _is_way(heap, home_form_in(standing.book, heap.maps, step), False, way):
            return False
    return all([times_of(way.factor, ways[0].factor) is not None for way in ways])


def _determinant_by(ways):
    """The determinant of three ways, each as often as its factor is that of the first one."""
    triples = []
    for way in ways:
        times = times_of(way.factor, ways[0].factor)
        triples.append([times * number for number in way.direction])
    return determinant(triples[0], triples[1], triples[2])
