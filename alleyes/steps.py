"""Steps from labels to labels, and marks, points that are made of labels."""

from alleyes.checks import is_name, picture_of
from alleyes.errors import BadMark, BadStep, BadText, NoPicture, TooMany, TwoPictures
from alleyes.ratios import Ratio, check_ratio
from alleyes.terms import MOST_TERMS, are_terms, check_labels, check_one_picture, joined_terms, kept_terms
from alleyes.terms import scaled_terms, terms_at, terms_sum, terms_text
from alleyes.texts import end_at, word_at, words_of

RIGHT = "right"
UP = "up"


class Step:
    """Labels of one picture with ratios that add up to 0; or the right, the up of a picture."""

    def __init__(self, terms):
        if not are_terms(terms):
            raise BadStep("terms")
        self.terms = kept_terms(terms)
        check_one_picture([label for label, _ in self.terms])
        if len(self.terms) == 0 or terms_sum(self.terms) != 0:
            raise BadStep("sum")
        if len(self.terms) > MOST_TERMS:
            raise TooMany("terms", MOST_TERMS)
        self.side = None
        self.picture_name = picture_of(self.terms[0][0])

    @staticmethod
    def between(one, other):
        """The plain step from a label to a label."""
        check_labels([one, other])
        return Step({one: -1, other: 1})

    @staticmethod
    def right_of(name):
        """The right of the picture with this name."""
        return _sided(RIGHT, name)

    @staticmethod
    def up_of(name):
        """The up of the picture with this name."""
        return _sided(UP, name)

    @property
    def is_plain(self):
        """Whether it goes from one label to another one."""
        return [abs(ratio) for _, ratio in self.terms] == [1, 1]

    def __add__(self, other):
        return Step(_moved_terms(self, other, 1))

    def __sub__(self, other):
        return Step(_moved_terms(self, other, -1))

    def __neg__(self):
        _check_no_side(self)
        return Step(scaled_terms(self.terms, -1))

    def __mul__(self, other):
        check_ratio(other, "ratio")
        _check_no_side(self)
        return Step(scaled_terms(self.terms, other))

    def __eq__(self, other):
        if not isinstance(other, Step) or self.side != other.side:
            return False
        return self.terms == other.terms and self.picture_name == other.picture_name

    def __str__(self):
        if self.side is not None:
            return f"{self.side} {self.picture_name}"
        return str(terms_text(self.terms))

    @staticmethod
    def read(text):
        """The step with this text."""
        words = words_of(text)
        if words[0] in (RIGHT, UP):
            if not is_name(word_at(words, 1)):
                raise BadText(0, 1)
            end_at(words, 2)
            return _sided(words[0], words[1])
        return Step(_whole_terms(words, 0))


class Mark:
    """Labels of one picture with ratios that add up to 1."""

    def __init__(self, terms):
        if not are_terms(terms):
            raise BadMark("terms")
        self.terms = kept_terms(terms)
        check_one_picture([label for label, _ in self.terms])
        if terms_sum(self.terms) != 1:
            raise BadMark("sum")
        if len(self.terms) > MOST_TERMS:
            raise TooMany("terms", MOST_TERMS)
        self.picture_name = picture_of(self.terms[0][0])

    @staticmethod
    def of_point(label):
        """The mark at the point of a label."""
        check_labels([label])
        return Mark({label: 1})

    @staticmethod
    def on_way(one, other, ratio):
        """The mark so many times of the way from a label to another one, which may be the same."""
        check_labels([one, other])
        check_ratio(ratio, "ratio")
        return Mark(joined_terms([(one, Ratio(1) - ratio)], [(other, Ratio.of(ratio))], 1))

    def __add__(self, other):
        return Mark(_moved_terms(self, other, 1))

    def __sub__(self, other):
        check_mark(other, "other")
        _check_same_picture(self, other)
        return Step(joined_terms(self.terms, other.terms, -1))

    def __eq__(self, other):
        return isinstance(other, Mark) and self.terms == other.terms

    def __str__(self):
        return str(terms_text(self.terms))

    @staticmethod
    def read(text):
        """The mark with this text."""
        return Mark(_whole_terms(words_of(text), 1))


def check_step(value, part):
    """BadStep with the name of an argument that is no step."""
    if not isinstance(value, Step):
        raise BadStep(part)


def check_mark(value, part):
    """BadMark with the name of an argument that is no mark."""
    if not isinstance(value, Mark):
        raise BadMark(part)


def _sided(side, name):
    """The step without terms to this side of the sheet."""
    if not is_name(name):
        raise NoPicture(name)
    # A Step has terms when it is made; those of this one are only needed to make it.
    step = Step({f"{name}.a": -1, f"{name}.b": 1})
    step.terms = ()
    step.side = side
    return step


def _moved_terms(value, step, times):
    """The terms of a step or a mark, and those of a step so many times."""
    check_step(step, "other")
    if isinstance(value, Step):
        _check_no_side(value)
    _check_no_side(step)
    _check_same_picture(value, step)
    return joined_terms(value.terms, step.terms, times)


def _check_no_side(step):
    if step.side is not None:
        raise BadStep("side")


def _check_same_picture(one, other):
    if one.picture_name != other.picture_name:
        raise TwoPictures(one.picture_name, other.picture_name)


def _whole_terms(words, total):
    """The terms that all words write."""
    terms, behind = terms_at(words, 0, None, total)
    end_at(words, behind)
    return terms
