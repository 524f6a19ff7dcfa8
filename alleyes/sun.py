"""The sun: where the shadow of a post ends, and how high the sun stands."""

from alleyes.books import check_label_known
from alleyes.checks import picture_of
from alleyes.errors import BadNumber, TwoPictures
from alleyes.groups import direction_found, ratio_together
from alleyes.ratios import Ratio, is_positive
from alleyes.sayings import Longer, Shorter
from alleyes.standing import check_standing, check_stands, heap_among
from alleyes.steps import Mark, Step
from alleyes.terms import check_labels, joined_terms
from alleyes.words import Waits


def shadow_mark(standing, top, foot, lit_top, lit_foot, lit_end):
    """Where the shadow of a post ends, by that of another post; or what this waits for."""
    check_standing(standing)
    labels = (top, foot, lit_top, lit_foot, lit_end)
    for label in labels:
        check_label_known(standing.book, label)
    for label in labels:
        if picture_of(label) != picture_of(foot):
            raise TwoPictures(picture_of(foot), picture_of(label))
    post, mate = Step.between(foot, top), Step.between(lit_foot, lit_top)
    check_stands(standing)
    group = heap_among(standing.heaps, picture_of(foot)).group
    waiting = [step for step in (post, mate) if direction_found(group, step) is None]
    if waiting:
        return Waits(waiting[:1] if post == mate else waiting)
    times = ratio_together(group, post, mate)
    if times is None or direction_found(group, post) != direction_found(group, mate):
        return Waits([post, mate])
    terms = joined_terms([(foot, Ratio(1))], [(lit_end, Ratio(1))], times)
    return Mark(joined_terms(list(terms.items()), [(lit_foot, Ratio(-1))], times))


def sun_above(top, foot, end, p=1, q=1):
    """The saying that the sun stands higher than where the squares of post and shadow are as p to q."""
    post, shadow = _post_and_shadow(top, foot, end, p, q)
    return Longer(post, shadow, p, q)


def sun_below(top, foot, end, p=1, q=1):
    """The saying that the sun stands lower than where the squares of post and shadow are as p to q."""
    post, shadow = _post_and_shadow(top, foot, end, p, q)
    return Shorter(post, shadow, p, q)


def _post_and_shadow(top, foot, end, p, q):
    """The steps from the foot to the top, and to the end."""
    check_labels([top, foot, end])
    if not is_positive(p):
        raise BadNumber("p")
    if not is_positive(q):
        raise BadNumber("q")
    return Step.between(foot, top), Step.between(foot, end)
