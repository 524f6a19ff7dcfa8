"""Parts of papers, bent at one place: numbers, labels, tuples, of other values and of other kinds."""

from fractions import Fraction

from alleyes.papers import Paper
from alleyes.ratios import Ratio
from alleyes.rows import Row
from tests.support import Odd


def is_number(value):
    """Whether a part stands for a number: no True, no False."""
    return isinstance(value, Ratio) or (isinstance(value, int) and not isinstance(value, bool))


def bent(value, source):
    """The value with one place of it bent."""
    if isinstance(value, tuple) and value and source.random() < 0.85:
        at = source.randrange(len(value))
        return value[:at] + (bent(value[at], source),) + value[at + 1:]
    if isinstance(value, Paper) and value.parts and source.random() < 0.85:
        return type(value)(*parts_bent(value.parts, source))
    return source.choice(bends_of(value, source))


def bends_of(value, source):
    if is_number(value):
        number = Ratio.of(value)
        bends = [number + 1, number - 1, -number, number * 2, number * Ratio(1, 2), Ratio(0), 0, True, False, None,
                 "1", 1.0, Fraction(1), (number,), Odd()]
        return bends + ([number.top] * 5 if number.is_whole else [])
    if isinstance(value, str):
        return ["one.a", "one.b", "one.c", "one.z", "one", "", None, 3, ("one.a",), Odd()]
    if isinstance(value, tuple):
        shuffled = list(value)
        source.shuffle(shuffled)
        bends = [value[:-1], value[1:], value + value[-1:], value + (Ratio(0),), value + (("one.a", Ratio(1)),),
                 tuple(shuffled), tuple(shuffled), list(value), (), None, 0, "", True, Odd(), value + (("one.z", 1),)]
        return bends
    if isinstance(value, Row):
        return [value * 2, value * Ratio(1, 3), -value, value + Row({"one.a": 1}), Row({}), Row({"one.zz": 1}) + value,
                str(value), value.terms, None, 1]
    if isinstance(value, Paper):
        return [Paper(value.word, *value.parts), value.parts, value.word, None, True, Odd()]
    return [Ratio(1), 0, True, "x", (), Odd(), None, (None,)]


def parts_bent(parts, source):
    """The parts of a paper, one of them bent at one place."""
    at = source.randrange(len(parts))
    return parts[:at] + (bent(parts[at], source),) + parts[at + 1:]
