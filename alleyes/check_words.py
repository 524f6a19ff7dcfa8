"""Whether words of sayings, plans and metrics are right."""

from alleyes.asking import ALL_ZERO, ROW, SAME_WAY, WAITING
from alleyes.check_cones import shows_lies, shows_signs, shows_signs_of_rows
from alleyes.check_eyes import shows_eye_signs
from alleyes.cones import Above, AllZero, Lies, NeverAll, NoScene, Some
from alleyes.plans import Plan, metric, plan_asked, spot_of
from alleyes.ratios import is_ratio
from alleyes.words import Always, Both, Never, Waits, saying_asked, word_with


def shows_word(standing, saying, value):
    """Whether value is the right word of a saying, with right papers."""
    asked = saying_asked(standing, saying)
    if asked.kind == WAITING:
        return type(value) is Waits and value.steps == asked.steps
    if not _is_word(value) or not isinstance(value.papers, tuple):
        return False
    if asked.kind == SAME_WAY:
        return _shows_same_way(asked, value)
    if len(value.papers) != 1:
        return False
    paper = value.papers[0]
    if asked.kind == ALL_ZERO:
        return _is_word_of_rows(value, paper) and shows_signs_of_rows(asked.heap.cone, asked.rows, paper)
    if asked.kind == ROW:
        is_right = shows_signs(asked.heap.cone, asked.row, paper)
    else:
        is_right = shows_eye_signs(asked.heap.flat, asked.row, paper)
    return is_right and type(word_with(asked, paper)) is type(value)


def shows_plan(standing, base, one, other, labels, value):
    """Whether value is a Plan whose spots are right, each of another one of the labels."""
    heap = plan_asked(standing, base, one, other, labels)
    if type(value) is not Plan or not isinstance(value.spots, tuple):
        return False
    if not all([_is_spot(spot, labels) for spot in value.spots]):
        return False
    if len({label: True for label, _, _ in value.spots}) < len(value.spots):
        return False
    return all([spot_of(heap, base, one, other, label) == (m, n) for label, m, n in value.spots])


def shows_metric(standing, one, other, value):
    """Whether value is the Metric of two steps."""
    found = metric(standing, one, other)
    return found is not None and found == value


def _is_word(value):
    return type(value) is Always or type(value) is Never or type(value) is Both


def _is_word_of_rows(value, paper):
    """Whether a word is that of the paper of rows that are to be 0."""
    if type(paper) is AllZero:
        return type(value) is Always
    if type(paper) is NeverAll:
        return type(value) is Never
    return type(paper) is Some and type(value) is Both


def _shows_same_way(asked, value):
    """Whether the papers of a word show it of three rows that are to be 0, and one that is to be above 0."""
    cone, papers = asked.heap.cone, value.papers
    narrowed = cone.narrowed(asked.rows, [asked.row])
    if type(value) is Never:
        return len(papers) == 1 and type(papers[0]) is NoScene and shows_lies(narrowed, papers[0])
    if len(papers) != 2:
        return False
    one, other = papers
    if type(value) is Always:
        return type(one) is AllZero and shows_signs_of_rows(cone, asked.rows, one) and (
            type(other) is Above and shows_signs(cone, asked.row, other))
    if type(one) is not Lies or type(other) is not Lies:
        return False
    return shows_lies(narrowed, one) and shows_lies(cone, other) and not shows_lies(narrowed, other)


def _is_spot(value, labels):
    """Whether any value is a triple of one of the labels and two ratios."""
    if not isinstance(value, tuple) or len(value) != 3:
        return False
    label, m, n = value
    return isinstance(label, str) and label in labels and is_ratio(m) and is_ratio(n)
