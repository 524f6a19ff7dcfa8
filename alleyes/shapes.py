"""Shapes: the facts that tiles, rows, stairs, posts and fences tell."""

from alleyes.checks import first_twice, is_list
from alleyes.errors import BadFact, Twice
from alleyes.facts import Lengths, Null, SameWay, Upright
from alleyes.steps import Step, check_step
from alleyes.terms import check_labels, check_one_picture

LEAST_ROW = 3
LEAST_STAIR = 4
LEAST_FENCE = 2


def tile_facts(a, b, c, d, *, upright=False, even=False):
    """Four corners, in the order round, of a tile; perhaps with right angles, or with even sides."""
    check_labels([a, b, c, d])
    _check_flag(upright, "upright")
    _check_flag(even, "even")
    check_different([a, b, c, d])
    facts = [_turned(a, b, d, c)]
    sides = (Step.between(a, b), Step.between(a, d))
    if upright:
        facts.append(Upright(*sides))
    if even:
        facts.append(Lengths(*sides))
    return tuple(facts)


def row_facts(*labels):
    """Points at even distances on a line."""
    check_labels(labels)
    check_different(labels)
    if len(labels) < LEAST_ROW:
        raise BadFact("labels")
    return tuple([_stepped(p, q, r) for p, q, r in zip(labels, labels[1:], labels[2:])])


def stair_facts(*labels):
    """Rise and tread in turn."""
    check_labels(labels)
    check_different(labels)
    if len(labels) < LEAST_STAIR:
        raise BadFact("labels")
    return tuple([_turned(p, q, r, s) for p, q, r, s in zip(labels, labels[1:], labels[2:], labels[3:])])


def post_facts(top, foot, up):
    """A post that stands straight up."""
    check_labels([top, foot])
    check_step(up, "up")
    check_different([top, foot])
    return (SameWay(Step.between(foot, top), up),)


def fence_facts(*posts):
    """Like posts, each a top and a foot, at even distances."""
    if len(posts) < LEAST_FENCE or not all([is_list(post) and len(post) == 2 for post in posts]):
        raise BadFact("posts")
    labels = [label for post in posts for label in post]
    check_labels(labels)
    check_different(labels)
    first_top, first_foot = posts[0]
    facts = [_turned(first_foot, first_top, foot, top) for top, foot in posts[1:]]
    feet = [foot for _, foot in posts]
    if len(feet) >= LEAST_ROW:
        return (*facts, *row_facts(*feet))
    return tuple(facts)


def check_different(labels):
    """TwoPictures unless labels are of one picture, Twice for the first that stood ahead."""
    check_one_picture(labels)
    if (twice := first_twice(labels)) is not None:
        raise Twice(twice)


def _turned(p, q, r, s):
    """The fact that s - r is q - p: the step from r to s is like that from p to q."""
    return Null(Step({p: 1, q: -1, r: -1, s: 1}))


def _stepped(p, q, r):
    """The fact that r lies as far behind q as q behind p."""
    return Null(Step({p: 1, q: -2, r: 1}))


def _check_flag(value, part):
    """BadFact unless value is True or False."""
    if value is not True and value is not False:
        raise BadFact(part)
