"""Sayings: what is asked of what stands, and not told."""

from alleyes.checks import is_label
from alleyes.errors import BadNumber, BadText, NoLabel, Twice
from alleyes.facts import KINDS, Along, InPlane, Lengths, Null, SameWay, Upright, fact_at, parts_text
from alleyes.parts import parts_at
from alleyes.ratios import Ratio, check_ratio, is_positive
from alleyes.steps import Step, check_mark, check_step
from alleyes.terms import check_one_picture
from alleyes.texts import end_at, word_at, words_of

ASKED = {
    "deeper": ("label", "alike"),
    "before": ("mark",),
    "onside": ("label", "alike", "step", "step", "third"),
    "atleast": ("label", "alike", "third", "number", "step", "step"),
    "sharp": ("step", "step"),
    "blunt": ("step", "step"),
    "longer": ("step", "step", "positive", "positive"),
    "shorter": ("step", "step", "positive", "positive"),
}
NO_SAYINGS = ("foot", "far", "tie")


class Saying:
    """What the sayings that are no facts have: a word, their parts, and the steps among these."""

    def __init__(self, word, *parts):
        self.word = word
        self.parts = parts
        self.steps = tuple([part for part in parts if isinstance(part, Step)])

    def __eq__(self, other):
        return type(self) is type(other) and self.parts == other.parts

    def __str__(self):
        return str(parts_text(self.word, self.parts))

    @staticmethod
    def read(text):
        """The saying with this text, which may be a fact of one of six kinds."""
        words = words_of(text)
        saying, behind = saying_at(words, 0, None)
        end_at(words, behind)
        return saying


class Deeper(Saying):
    """A label is deeper than another one."""

    def __init__(self, one, other):
        _check_label(one)
        _check_label(other)
        check_one_picture([one, other])
        super().__init__("deeper", one, other)
        self.one = one
        self.other = other

    def __eq__(self, other):
        return type(self) is type(other) and self.parts == other.parts

    def __str__(self):
        return str(parts_text(self.word, self.parts))


class Before(Saying):
    """A mark is before the eye."""

    def __init__(self, mark):
        check_mark(mark, "mark")
        super().__init__("before", mark)
        self.mark = mark

    def __eq__(self, other):
        return type(self) is type(other) and self.parts == other.parts

    def __str__(self):
        return str(parts_text(self.word, self.parts))


class OnSide(Saying):
    """A label lies on the side of a mate, of the plane through a base along two steps."""

    def __init__(self, label, base, one, other, mate):
        _check_label(label)
        _check_label(base)
        check_step(one, "one")
        check_step(other, "other")
        _check_label(mate)
        check_one_picture([label, base, mate])
        if mate == base:
            raise Twice(mate)
        super().__init__("onside", label, base, one, other, mate)
        self.label = label
        self.base = base
        self.one = one
        self.other = other
        self.mate = mate

    def __eq__(self, other):
        return type(self) is type(other) and self.parts == other.parts

    def __str__(self):
        return str(parts_text(self.word, self.parts))


class AtLeast(Saying):
    """By planes along two steps a label lies at least so many times of the way from one to other."""

    def __init__(self, label, one, other, ratio, side, mate):
        _check_label(label)
        _check_label(one)
        _check_label(other)
        check_ratio(ratio, "ratio")
        check_step(side, "side")
        check_step(mate, "mate")
        check_one_picture([label, one, other])
        if one == other:
            raise Twice(other)
        super().__init__("atleast", label, one, other, Ratio.of(ratio), side, mate)
        self.label = label
        self.one = one
        self.other = other
        self.ratio = Ratio.of(ratio)
        self.side = side
        self.mate = mate

    def __eq__(self, other):
        return type(self) is type(other) and self.parts == other.parts

    def __str__(self):
        return str(parts_text(self.word, self.parts))


class Sharp(Saying):
    """The product of the steps is above 0."""

    def __init__(self, one, other):
        check_step(one, "one")
        check_step(other, "other")
        super().__init__("sharp", one, other)
        self.one = one
        self.other = other

    def __eq__(self, other):
        return type(self) is type(other) and self.parts == other.parts

    def __str__(self):
        return str(parts_text(self.word, self.parts))


class Blunt(Saying):
    """The product of the steps is below 0."""

    def __init__(self, one, other):
        check_step(one, "one")
        check_step(other, "other")
        super().__init__("blunt", one, other)
        self.one = one
        self.other = other

    def __eq__(self, other):
        return type(self) is type(other) and self.parts == other.parts

    def __str__(self):
        return str(parts_text(self.word, self.parts))


class Longer(Saying):
    """The square of the length of one is more than p / q of that of other."""

    def __init__(self, one, other, p=1, q=1):
        _check_compared(one, other, p, q)
        super().__init__("longer", one, other, Ratio.of(p), Ratio.of(q))
        self.one = one
        self.other = other
        self.p = Ratio.of(p)
        self.q = Ratio.of(q)

    def __eq__(self, other):
        return type(self) is type(other) and self.parts == other.parts

    def __str__(self):
        return str(parts_text(self.word, self.parts))


class Shorter(Saying):
    """The square of the length of one is less than p / q of that of other."""

    def __init__(self, one, other, p=1, q=1):
        _check_compared(one, other, p, q)
        super().__init__("shorter", one, other, Ratio.of(p), Ratio.of(q))
        self.one = one
        self.other = other
        self.p = Ratio.of(p)
        self.q = Ratio.of(q)

    def __eq__(self, other):
        return type(self) is type(other) and self.parts == other.parts

    def __str__(self):
        return str(parts_text(self.word, self.parts))


def is_saying(value):
    """Whether any value is a saying."""
    return isinstance(value, (Saying, Null, Along, SameWay, InPlane, Upright, Lengths))


def saying_at(words, at, known):
    """The saying, of known labels and names, that words from at on write, and the index behind it."""
    word = word_at(words, at)
    if word in KINDS and word not in NO_SAYINGS:
        return fact_at(words, at, known)
    if word not in ASKED:
        raise BadText(0, at)
    parts, behind = parts_at(words, at + 1, ASKED[word], known)
    return _saying_of(word, parts), behind


def _saying_of(word, parts):
    """The saying of a kind with these parts."""
    if word == "deeper":
        return Deeper(*parts)
    if word == "before":
        return Before(*parts)
    if word == "onside":
        return OnSide(*parts)
    if word == "atleast":
        return AtLeast(*parts)
    if word == "sharp":
        return Sharp(*parts)
    if word == "blunt":
        return Blunt(*parts)
    if word == "longer":
        return Longer(*parts)
    return Shorter(*parts)


def _check_label(value):
    if not is_label(value):
        raise NoLabel(value)


def _check_compared(one, other, p, q):
    """The errors of two steps, and of p and q above 0."""
    check_step(one, "one")
    check_step(other, "other")
    if not is_positive(p):
        raise BadNumber("p")
    if not is_positive(q):
        raise BadNumber("q")
