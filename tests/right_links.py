"""Which papers of links, second eyes and what is lacking are right, reckoned in Fractions."""

from alleyes.lacks import Lacks
from alleyes.seconds import SecondEye, Several
from tests.bending import is_number
from tests.linked import inverse, mate_of, rank
from tests.right_flats import at, four, is_eye, numbers_of


def has_mate_in_home(standing, name, triple):
    """Whether a value is an eye of a picture whose mate in its home is an eye of the heap's flat."""
    numbers = numbers_of(triple, 3)
    if numbers is None or numbers[2] <= numbers[0] ** 2 + numbers[1] ** 2:
        return False
    heap = standing.heap_of(name)
    mate = mate_of(inverse(heap.maps[name]), numbers)
    return mate is not None and all(at(line, mate) == 0 for line in heap.flat.lines)


def right_second(standing, name, value):
    heap = standing.heap_of(name)
    if type(value) is SecondEye:
        return rank([four(line)[:3] for line in heap.flat.lines]) == 3 and has_mate_in_home(standing, name, value.parts)
    if type(value) is not Several or not all(has_mate_in_home(standing, name, part) for part in value.parts):
        return False
    return numbers_of(value.one, 3) != numbers_of(value.other, 3)


def is_whole(value):
    return isinstance(value, int) and not isinstance(value, bool)


def right_lacks(standing, value):
    if type(value) is not Lacks or not isinstance(value.home, str) or not is_whole(value.number):
        return False
    heaps = [heap for heap in standing.heaps if heap.home == value.home]
    if len(heaps) != 1:
        return False
    rows = [four(line)[:3] for line in heaps[0].flat.lines]
    if value.number != 3 - rank(rows) or not isinstance(value.leads, tuple) or not isinstance(value.eyes, tuple):
        return False
    if not all(is_whole(lead) and 0 <= lead < len(rows) for lead in value.leads):
        return False
    if len(value.leads) != 3 - value.number or rank([rows[lead] for lead in value.leads]) != len(value.leads):
        return False
    if len(value.eyes) != value.number + 1 or not all(is_eye(heaps[0].flat, eye) for eye in value.eyes):
        return False
    eyes = [numbers_of(eye, 3) for eye in value.eyes]
    return rank([[part - own for part, own in zip(eye, eyes[0])] for eye in eyes[1:]]) == value.number


def are_numbers(value):
    return isinstance(value, tuple) and all(is_number(item) for item in value)
