"""Parts of texts of facts and sayings: steps, marks, labels, names and ratios, the word | between two of them."""

from alleyes.checks import is_label, is_name, picture_of
from alleyes.errors import BadText
from alleyes.ratios import ratio_at
from alleyes.steps import RIGHT, UP, Mark, Step
from alleyes.terms import terms_at
from alleyes.texts import BAR, check_known, word_at

TERMS = "terms"
STEP = "step"
FACING = "facing"
MARK = "mark"
LABEL = "label"
ALIKE = "alike"
THIRD = "third"
FOREIGN = "foreign"
NAME = "name"
NUMBER = "number"
POSITIVE = "positive"


def parts_at(words, start, kinds, known):
    """The parts of these kinds that words from start on write, and the index behind them.

    Labels and names are some of the known ones, None knowing all.
    """
    parts, at = [], start
    for kind in kinds:
        if len(parts) > 0:
            at = behind_bar(words, at)
        part, at = _part_at(words, at, kind, parts, known)
        parts.append(part)
    return parts, at


def behind_bar(words, at):
    """The index behind the word | that stands there."""
    if word_at(words, at) != BAR:
        raise BadText(0, at)
    return at + 1


def step_at(words, at, known):
    """The step that words from at on write, and the index behind it."""
    word = word_at(words, at)
    if word not in (RIGHT, UP):
        return terms_step_at(words, at, known)
    name = name_at(words, at + 1, known)
    step = Step.right_of(name) if word == RIGHT else Step.up_of(name)
    return step, at + 2


def terms_step_at(words, at, known):
    """The step with terms that words from at on write, and the index behind it."""
    terms, behind = terms_at(words, at, known, 0)
    return Step(terms), behind


def label_word(words, at, known):
    """The label that stands there."""
    label = word_at(words, at)
    if not is_label(label):
        raise BadText(0, at)
    check_known(known, words, at)
    return label


def name_at(words, at, known):
    """The name of a picture that stands there."""
    name = word_at(words, at)
    if not is_name(name):
        raise BadText(0, at)
    check_known(known, words, at)
    return name


def _part_at(words, at, kind, parts, known):
    """A part of this kind, behind the parts ahead of it, and the index behind it."""
    if kind == TERMS or (kind == FACING and parts[0].side is not None):
        return terms_step_at(words, at, known)
    if kind in (STEP, FACING):
        return step_at(words, at, known)
    if kind == MARK:
        terms, behind = terms_at(words, at, known, 1)
        return Mark(terms), behind
    if kind == NAME:
        return name_at(words, at, known), at + 1
    if kind in (NUMBER, POSITIVE):
        ratio = ratio_at(words, at)
        if kind == POSITIVE and ratio.sign <= 0:
            raise BadText(0, at)
        return ratio, at + 1
    return _fitting_label(words, at, kind, parts, known), at + 1


def _fitting_label(words, at, kind, parts, known):
    """A label that fits those ahead of it: of the picture of the first one, or of another one."""
    label = label_word(words, at, known)
    if kind == FOREIGN and picture_of(label) == picture_of(parts[0]):
        raise BadText(0, at)
    if kind in (ALIKE, THIRD) and picture_of(label) != picture_of(parts[0]):
        raise BadText(0, at)
    if kind == THIRD and label == parts[1]:
        raise BadText(0, at)
    return label
