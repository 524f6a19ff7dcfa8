"""Fitting: whether a fact fits what stands, and how it is used then; when its above row is due."""

from alleyes.checks import picture_of
from alleyes.groups import direction_found, is_side, meet_in, ratio_together
from alleyes.sheet import cross
from alleyes.uses import TURNING, Use, with_above


def names_in(fact):
    """The names of the pictures that a fact is about."""
    if fact.word == "tie":
        return [picture_of(label) for label in fact.parts]
    if fact.word in ("foot", "far"):
        return [fact.name]
    return [step.picture_name for step in fact.steps]


def use_of(group, number, fact, stage):
    """The Use of a fact about pictures of the group; None if it waits."""
    if fact.word in TURNING:
        return _turning_use(group, number, fact, stage)
    if fact.word == "null":
        return Use(number, fact, stage, (), (fact.step,))
    if fact.word == "inplane":
        directions = plane_of(group, fact.one, fact.other)
        return None if directions is None else Use(number, fact, stage, directions, (fact.step,))
    if fact.word == "upright":
        directions = _both_directions(group, fact.one, fact.other)
        return None if directions is None else Use(number, fact, stage, directions)
    if fact.word == "lengths":
        ratio = ratio_together(group, fact.one, fact.other)
        if ratio is None:
            return None
        return Use(number, fact, stage, _both_directions(group, fact.one, fact.other), (), ratio)
    return Use(number, fact, stage)


def with_due_above(group, use, stage):
    """The use with the above row of a same way, which is due in the round behind; None if none is due."""
    if use.fact.word != "sameway" or use.above is not None:
        return None
    if len(use.targets) == 1:
        return with_above(use, stage, use.targets[0], use.directions[0])
    # Behind a meet both steps are settled, but only now is it known which way.
    return with_above(use, stage, use.fact.other, direction_found(group, use.fact.one))


def turned_by(group, fact):
    """The step of an along or a same way that the settled other one turns, and its direction; None if none does."""
    direction = direction_found(group, fact.one)
    if direction is not None and not is_side(fact.other):
        return fact.other, direction
    # A right or an up is settled, so here one has terms.
    direction = direction_found(group, fact.other)
    return None if direction is None else (fact.one, direction)


def plane_of(group, one, other):
    """The directions of two steps that lie in just one plane; None if they are not settled so."""
    directions = _both_directions(group, one, other)
    if directions is None or not any([bool(number) for number in cross(directions[0], directions[1])]):
        return None
    return directions


def _turning_use(group, number, fact, stage):
    turned = turned_by(group, fact)
    if turned is not None:
        step, direction = turned
        return Use(number, fact, stage, (direction,), (step,))
    meet = meet_in(group, fact.one, fact.other)
    if meet is None:
        return None
    return Use(number, fact, stage, (meet,), (fact.one, fact.other))


def _both_directions(group, one, other):
    """The directions of two steps; None if one is not settled."""
    found = (direction_found(group, one), direction_found(group, other))
    return None if None in found else found
