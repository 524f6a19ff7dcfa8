"""Terms: ratios by labels, of which rows, steps, marks and scenes are made."""

from alleyes.checks import is_label, picture_of
from alleyes.errors import BadText, NoLabel, TwoPictures
from alleyes.ratios import Ratio, added, is_ratio, ratio_at
from alleyes.texts import check_known, is_end, word_at

MOST_TERMS = 12


def are_terms(value):
    """Whether any value is a dict from labels to ratios."""
    if not isinstance(value, dict):
        return False
    return all([is_label(label) and is_ratio(value[label]) for label in value])


def kept_terms(terms):
    """The pairs (label, Ratio) of terms, ascending, without those of 0."""
    pairs = [(label, Ratio.of(terms[label])) for label in sorted(terms)]
    return tuple([(label, ratio) for label, ratio in pairs if ratio])


def terms_sum(pairs):
    """The ratios of some pairs added up."""
    return added([ratio for _, ratio in pairs])


def joined_terms(pairs, others, times):
    """The terms of the pairs, and the others so many times."""
    terms = dict(pairs)
    for label, ratio in others:
        terms[label] = ratio * times + terms.get(label, 0)
    return terms


def scaled_terms(pairs, times):
    """The terms of the pairs, so many times."""
    return {label: ratio * times for label, ratio in pairs}


def check_labels(labels):
    """NoLabel for the first value that is no label at all."""
    for label in labels:
        if not is_label(label):
            raise NoLabel(label)


def check_one_picture(labels):
    """TwoPictures with the picture of the first label and the first other one."""
    names = [picture_of(label) for label in labels]
    for name in names:
        if name != names[0]:
            raise TwoPictures(names[0], name)


def terms_text(pairs):
    """Each label and its ratio."""
    return " ".join([f"{label} {ratio}" for label, ratio in pairs])


def label_at(words, at, before):
    """The label that stands there, if it is greater than the one before."""
    label = word_at(words, at)
    if not is_label(label) or label <= before:
        raise BadText(0, at)
    return label


def nonzero_at(words, at):
    """The ratio other than 0 that stands there."""
    ratio = ratio_at(words, at)
    if not ratio:
        raise BadText(0, at)
    return ratio


def terms_at(words, start, known, total):
    """The terms, other than 0 and at most 12, of one picture, that words from start on write, and the index behind.

    They end where a | or a ; stands, or the words end; only there it shows whether they add up to the total.
    """
    terms, before, at = {}, "", start
    while at == start or not is_end(words, at):
        before = label_at(words, at, before)
        check_known(known, words, at)
        if len(terms) == MOST_TERMS or picture_of(before) != picture_of(words[start]):
            raise BadText(0, at)
        terms[before] = nonzero_at(words, at + 1)
        at = at + 2
    if terms_sum(list(terms.items())) != total:
        raise BadText(0, min(at, len(words) - 1))
    return terms, at
