"""Facts: what is told of steps, of eyes, and of labels of two pictures."""

from alleyes.checks import is_label, is_name, picture_of
from alleyes.errors import BadFact, BadText
from alleyes.parts import parts_at
from alleyes.ratios import Ratio, is_positive, is_ratio
from alleyes.steps import Step
from alleyes.texts import end_at, word_at, words_of

KINDS = {
    "null": ("terms",),
    "along": ("step", "facing"),
    "sameway": ("step", "facing"),
    "inplane": ("terms", "step", "step"),
    "upright": ("step", "step"),
    "lengths": ("step", "step", "positive", "positive"),
    "foot": ("name", "number", "number"),
    "far": ("name", "number"),
    "tie": ("label", "foreign"),
}


class Fact:
    """What all facts have: a word, their parts, and the steps among these."""

    def __init__(self, word, *parts):
        self.word = word
        self.parts = parts
        self.steps = tuple([part for part in parts if isinstance(part, Step)])

    def __eq__(self, other):
        return type(self) is type(other) and self.parts == other.parts

    def __str__(self):
        return str(parts_text(self.word, self.parts))

    @staticmethod
    def read(text):
        """The fact with this text."""
        words = words_of(text)
        fact, behind = fact_at(words, 0, None)
        end_at(words, behind)
        return fact


class Null(Fact):
    """The step is nothing."""

    def __init__(self, step):
        _check_terms(step, "step")
        super().__init__("null", step)
        self.step = step

    def __eq__(self, other):
        return type(self) is type(other) and self.parts == other.parts

    def __str__(self):
        return str(parts_text(self.word, self.parts))


class Along(Fact):
    """The steps lie along one another, either way."""

    def __init__(self, one, other):
        _check_facing(one, other)
        super().__init__("along", one, other)
        self.one = one
        self.other = other

    def __eq__(self, other):
        return type(self) is type(other) and self.parts == other.parts

    def __str__(self):
        return str(parts_text(self.word, self.parts))


class SameWay(Fact):
    """The steps go the same way."""

    def __init__(self, one, other):
        _check_facing(one, other)
        super().__init__("sameway", one, other)
        self.one = one
        self.other = other

    def __eq__(self, other):
        return type(self) is type(other) and self.parts == other.parts

    def __str__(self):
        return str(parts_text(self.word, self.parts))


class InPlane(Fact):
    """The step lies in the plane of two others."""

    def __init__(self, step, one, other):
        _check_terms(step, "step")
        _check_step(one, "one")
        _check_step(other, "other")
        super().__init__("inplane", step, one, other)
        self.step = step
        self.one = one
        self.other = other

    def __eq__(self, other):
        return type(self) is type(other) and self.parts == other.parts

    def __str__(self):
        return str(parts_text(self.word, self.parts))


class Upright(Fact):
    """The steps are at a right angle."""

    def __init__(self, one, other):
        _check_step(one, "one")
        _check_step(other, "other")
        super().__init__("upright", one, other)
        self.one = one
        self.other = other

    def __eq__(self, other):
        return type(self) is type(other) and self.parts == other.parts

    def __str__(self):
        return str(parts_text(self.word, self.parts))


class Lengths(Fact):
    """The squares of the lengths of the steps are as p to q."""

    def __init__(self, one, other, p=1, q=1):
        _check_step(one, "one")
        _check_step(other, "other")
        _check_positive(p, "p")
        _check_positive(q, "q")
        super().__init__("lengths", one, other, Ratio.of(p), Ratio.of(q))
        self.one = one
        self.other = other
        self.p = Ratio.of(p)
        self.q = Ratio.of(q)

    def __eq__(self, other):
        return type(self) is type(other) and self.parts == other.parts

    def __str__(self):
        return str(parts_text(self.word, self.parts))


class Foot(Fact):
    """The eye of the picture of this name is over (a, b)."""

    def __init__(self, name, a, b):
        _check_name(name)
        _check_number(a, "a")
        _check_number(b, "b")
        super().__init__("foot", name, Ratio.of(a), Ratio.of(b))
        self.name = name
        self.a = Ratio.of(a)
        self.b = Ratio.of(b)

    def __eq__(self, other):
        return type(self) is type(other) and self.parts == other.parts

    def __str__(self):
        return str(parts_text(self.word, self.parts))


class Far(Fact):
    """The third number of the eye of the picture of this name."""

    def __init__(self, name, s):
        _check_name(name)
        _check_number(s, "s")
        super().__init__("far", name, Ratio.of(s))
        self.name = name
        self.s = Ratio.of(s)

    def __eq__(self, other):
        return type(self) is type(other) and self.parts == other.parts

    def __str__(self):
        return str(parts_text(self.word, self.parts))


class Tie(Fact):
    """Two labels of two pictures show one point."""

    def __init__(self, one, other):
        if not is_label(one):
            raise BadFact("one")
        if not is_label(other) or picture_of(other) == picture_of(one):
            raise BadFact("other")
        super().__init__("tie", one, other)
        self.one = one
        self.other = other

    def __eq__(self, other):
        return type(self) is type(other) and self.parts == other.parts

    def __str__(self):
        return str(parts_text(self.word, self.parts))


def parts_text(word, parts):
    """The word, then the parts with the word | between."""
    listed = " | ".join([str(part) for part in parts])
    return f"{word} {listed}"


def fact_at(words, at, known):
    """The fact, of known labels and names, that words from at on write, and the index behind it."""
    word = word_at(words, at)
    if word not in KINDS:
        raise BadText(0, at)
    parts, behind = parts_at(words, at + 1, KINDS[word], known)
    return _fact_of(word, parts), behind


def _fact_of(word, parts):
    """The fact of a kind with these parts."""
    if word == "null":
        return Null(*parts)
    if word == "along":
        return Along(*parts)
    if word == "sameway":
        return SameWay(*parts)
    if word == "inplane":
        return InPlane(*parts)
    if word == "upright":
        return Upright(*parts)
    if word == "lengths":
        return Lengths(*parts)
    if word == "foot":
        return Foot(*parts)
    if word == "far":
        return Far(*parts)
    return Tie(*parts)


def are_facts(value):
    """Whether any value is a list or tuple of Facts, perhaps none."""
    return isinstance(value, (list, tuple)) and all([isinstance(fact, Fact) for fact in value])


def _check_step(value, part):
    if not isinstance(value, Step):
        raise BadFact(part)


def _check_terms(value, part):
    """BadFact for what is no step with terms."""
    if not isinstance(value, Step) or value.side is not None:
        raise BadFact(part)


def _check_facing(one, other):
    """BadFact for what are no steps, or are both right or up."""
    _check_step(one, "one")
    _check_step(other, "other")
    if one.side is not None and other.side is not None:
        raise BadFact("other")


def _check_positive(value, part):
    if not is_positive(value):
        raise BadFact(part)


def _check_number(value, part):
    if not is_ratio(value):
        raise BadFact(part)


def _check_name(value):
    if not is_name(value):
        raise BadFact("name")
