"""Truths: by what steps lead in space, and which facts are true of a solid and of views."""

from alleyes.checks import is_list
from alleyes.errors import BadFact, BadStep, NoLabel, NoPicture
from alleyes.facts import Along, Fact, Lengths, Null, SameWay, Upright
from alleyes.painting import check_views
from alleyes.ratios import Ratio
from alleyes.sheet import cross, determinant
from alleyes.solids import added_places, check_solid
from alleyes.steps import RIGHT, Step, check_step
from alleyes.views import eye_of, plain_product

NOWHERE = (0, 0, 0)


def led_by(solid, views, step):
    """The triple by which a step leads in space."""
    check_solid(solid)
    check_views(views)
    check_step(step, "step")
    return _way_of(solid, views, step)


def is_true(solid, views, fact):
    """Whether a fact is true of a solid, and of views by names of pictures."""
    check_solid(solid)
    check_views(views)
    if not isinstance(fact, Fact):
        raise BadFact("fact")
    return _holds(solid, views, fact, [_way_of(solid, views, step) for step in fact.steps])


def true_facts(solid, views, steps):
    """The facts that are true of steps, and of each two of those that lead somewhere."""
    check_solid(solid)
    check_views(views)
    if not is_list(steps) or not all([isinstance(step, Step) for step in steps]):
        raise BadStep("steps")
    led = [(step, _way_of(solid, views, step)) for step in steps]
    facts = [Null(step) for step, way in led if way == NOWHERE]
    leading = [(step, way) for step, way in led if way != NOWHERE]
    for at, (one, way) in enumerate(leading):
        for other, mate in leading[at + 1:]:
            facts = facts + _true_of_two(one, way, other, mate)
    return facts


def _way_of(solid, views, step):
    """The triple by which a step leads; the errors of what it names."""
    if step.picture_name not in views:
        raise NoPicture(step.picture_name)
    if step.side is not None:
        view = views[step.picture_name]
        return view.right if step.side == RIGHT else view.up
    total = (Ratio(0), Ratio(0), Ratio(0))
    for label, ratio in step.terms:
        total = added_places(total, [number * ratio for number in _spot_of(solid, views, label)])
    return total


def _spot_of(solid, views, label):
    """The place of the corner that a label shows."""
    name, _, corner = label.partition(".")
    if name not in views:
        raise NoPicture(name)
    if corner not in solid:
        raise NoLabel(label)
    return solid.spot_of(corner)


def _holds(solid, views, fact, ways):
    """Whether a fact, whose steps lead by these triples, is true."""
    if fact.word == "tie":
        one, other = [_spot_of(solid, views, label) for label in fact.parts]
        return one == other
    if fact.word in ("foot", "far"):
        return _holds_of_eye(views, fact)
    if fact.word == "null":
        return ways[0] == NOWHERE
    if fact.word == "inplane":
        step, one, other = ways
        return cross(one, other) != NOWHERE and determinant(step, one, other) == 0
    one, other = ways
    if fact.word == "along":
        return cross(one, other) == NOWHERE
    if fact.word == "sameway":
        return _go_one_way(one, other)
    if fact.word == "upright":
        return one != NOWHERE and other != NOWHERE and plain_product(one, other) == 0
    return one != NOWHERE and other != NOWHERE and _are_as_told(fact, one, other)


def _holds_of_eye(views, fact):
    """Whether a foot, or a far, tells of the eye of a view."""
    if fact.name not in views:
        raise NoPicture(fact.name)
    view = views[fact.name]
    if fact.word == "foot":
        return view.foot == (fact.a, fact.b)
    return eye_of(view).s == fact.s


def _go_one_way(one, other):
    """Whether a triple is another one times a ratio above 0, and leads somewhere."""
    return cross(one, other) == NOWHERE and plain_product(one, other).sign > 0


def _are_as_told(fact, one, other):
    """Whether the squares of the lengths of two triples are as p to q; a right or an up tells of its picture alone."""
    sides = [step for step in fact.steps if step.side is not None]
    if len(sides) == 1:
        return False
    if len(sides) == 2:
        return fact.one.picture_name == fact.other.picture_name and fact.p == fact.q
    return plain_product(one, one) * fact.q == plain_product(other, other) * fact.p


def _true_of_two(one, way, other, mate):
    """The facts that are true of two steps that lead somewhere, by these triples."""
    facts = []
    if one.side is None or other.side is None:
        if _go_one_way(way, mate):
            facts.append(SameWay(one, other))
        elif cross(way, mate) == NOWHERE:
            facts.append(Along(one, other))
    if plain_product(way, mate) == 0:
        facts.append(Upright(one, other))
    lengths = Lengths(one, other)
    if _are_as_told(lengths, way, mate):
        facts.append(lengths)
    return facts
