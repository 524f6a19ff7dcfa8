"""Ratios: exact fractions in lowest terms."""

from math import gcd

from alleyes.checks import is_integer, is_list
from alleyes.errors import BadNumber, BadRatio, BadText
from alleyes.texts import end_at, word_at, words_of

# Python itself refuses to write integers of some thousand digits at once, so they are written piece by piece.
PIECE = 64
PIECE_BOUND = 10 ** 64

MOST_DIGITS = 60


class Ratio:
    """A top over a bottom above 0, without a common divisor."""

    def __init__(self, top, bottom=1):
        if not is_integer(top):
            raise BadRatio("top")
        if not is_integer(bottom) or bottom == 0:
            raise BadRatio("bottom")
        shared = gcd(top, bottom) if bottom > 0 else -gcd(top, bottom)
        self.top = top // shared
        self.bottom = bottom // shared

    @property
    def sign(self):
        """-1, 0 or 1."""
        return _sign_of(self.top)

    @property
    def is_whole(self):
        """Whether the bottom is 1."""
        return self.bottom == 1

    def __add__(self, other):
        right = _at_right(other)
        return Ratio(self.top * right.bottom + right.top * self.bottom, self.bottom * right.bottom)

    def __sub__(self, other):
        right = _at_right(other)
        return Ratio(self.top * right.bottom - right.top * self.bottom, self.bottom * right.bottom)

    def __mul__(self, other):
        right = _at_right(other)
        return Ratio(self.top * right.top, self.bottom * right.bottom)

    def over(self, other):
        """This ratio divided by another one."""
        right = _at_right(other)
        if right.top == 0:
            raise BadRatio("zero")
        return Ratio(self.top * right.bottom, self.bottom * right.top)

    def compared(self, other):
        """-1, 0 or 1, as this ratio is less than the other, equal to it or greater."""
        right = _at_right(other)
        return _sign_of(self.top * right.bottom - right.top * self.bottom)

    def is_below(self, other):
        """Whether this ratio is less than the other."""
        return self.compared(other) < 0

    def __neg__(self):
        return Ratio(-self.top, self.bottom)

    def __abs__(self):
        return Ratio(abs(self.top), self.bottom)

    def __bool__(self):
        return bool(self.top)

    def __eq__(self, other):
        if isinstance(other, Ratio):
            return self.top == other.top and self.bottom == other.bottom
        return is_integer(other) and self.bottom == 1 and self.top == other

    def __str__(self):
        if self.bottom == 1:
            return str(_digits(self.top))
        return f"{_digits(self.top)}/{_digits(self.bottom)}"

    def __repr__(self):
        return str(self)

    @staticmethod
    def read(text):
        """The ratio with this text."""
        words = words_of(text)
        ratio = ratio_at(words, 0)
        end_at(words, 1)
        return ratio

    @staticmethod
    def of(value):
        """The Ratio of a ratio."""
        if isinstance(value, Ratio):
            return value
        if not is_integer(value):
            raise BadRatio("value")
        return Ratio(value)


def is_ratio(value):
    """Whether any value is a Ratio or an integer."""
    return isinstance(value, Ratio) or is_integer(value)


def is_positive(value):
    """Whether any value is a ratio above 0."""
    return is_ratio(value) and Ratio.of(value).top > 0


def added(ratios):
    """The sum of some ratios, 0 if there are none."""
    if not are_ratios(ratios):
        raise BadRatio("ratios")
    total = Ratio(0)
    for ratio in ratios:
        total = total + ratio
    return total


def least_of(ratios):
    """The least of some ratios."""
    return _extreme(ratios, -1)


def greatest_of(ratios):
    """The greatest of some ratios."""
    return _extreme(ratios, 1)


def are_ratios(value):
    """Whether any value is a list or tuple of ratios, perhaps none."""
    return is_list(value) and all([is_ratio(item) for item in value])


def ratios_of(value, many):
    """The tuple of the Ratios of a list or tuple of so many ratios; None for any other value."""
    if not are_ratios(value) or len(value) != many:
        return None
    return tuple([Ratio.of(item) for item in value])


def check_ratio(value, part):
    """BadNumber with the name of an argument that is no ratio."""
    if not is_ratio(value):
        raise BadNumber(part)


def triple_of(value, part):
    """The three Ratios of an argument; BadNumber with its name for what is no list or tuple of three ratios."""
    numbers = ratios_of(value, 3)
    if numbers is None:
        raise BadNumber(part)
    return numbers


def ratio_at(words, at):
    """The ratio that the word of this index writes; BadText if it cannot stand."""
    ratio = _written(word_at(words, at))
    if ratio is None:
        raise BadText(0, at)
    return ratio


def _extreme(ratios, sign):
    """The ratio that goes furthest to the side of the sign."""
    if not are_ratios(ratios) or len(ratios) == 0:
        raise BadRatio("ratios")
    best = Ratio.of(ratios[0])
    for ratio in ratios:
        if best.compared(ratio) == -sign:
            best = Ratio.of(ratio)
    return best


def _at_right(other):
    """The Ratio of what stands at the right of a sign."""
    if isinstance(other, Ratio):
        return other
    if not is_integer(other):
        raise BadRatio("other")
    return Ratio(other)


def _sign_of(number):
    return (number > 0) - (number < 0)


def _digits(number):
    """The text of an integer of any size."""
    if abs(number) < PIECE_BOUND:
        return str(number)
    pieces = []
    rest = abs(number)
    while rest >= PIECE_BOUND:
        rest, piece = divmod(rest, PIECE_BOUND)
        pieces.append(str(piece).zfill(PIECE))
    sign = "-" if number < 0 else ""
    tail = "".join(pieces[::-1])
    return f"{sign}{rest}{tail}"


def _written(word):
    """The ratio that a word writes, None if it is no text of one, or has too many digits."""
    top, slash, bottom = word.partition("/")
    above = top.removeprefix("-")
    if not _is_count(above) or (slash == "/" and not _is_count(bottom)):
        return None
    below = int(bottom) if slash == "/" else 1
    if below == 0:
        return None
    ratio = Ratio(-int(above) if top != above else int(above), below)
    return ratio if str(ratio) == word else None


def _is_count(word):
    """Whether a word is 1 to 60 digits."""
    return 1 <= len(word) <= MOST_DIGITS and word.isascii() and word.isdigit()
