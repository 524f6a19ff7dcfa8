"""Which words of sayings are right: what a saying reads by the document's table, papers reckoned in Fractions."""

from alleyes.cones import Above, AllZero, Below, Cone, Lies, Mixed, NeverAll, NoScene, Some, Zero, signs_of
from alleyes.bowl import AboveEyes, BelowEyes, MixedEyes, ZeroEyes
from alleyes.facts import Along, InPlane, Lengths, Null, SameWay, Upright
from alleyes.flats import product_row
from alleyes.ratios import Ratio
from alleyes.rows import Row
from alleyes.sayings import AtLeast, Before, Blunt, Deeper, OnSide, Sharp, Shorter
from alleyes.sheet import cross, meet_of
from alleyes.standing import home_form, together, way_of
from alleyes.steps import Mark, Step
from alleyes.words import Always, Both, Never, Waits
from tests.painting import direction, dot
from tests.right_cones import is_scene, right_lies, right_signs, right_signs_of_rows
from tests.right_flats import right_eye_signs


def crossed(form, told):
    d1, d2, d3 = form
    v1, v2, v3 = told
    return [d2 * v3 - d3 * v2, d3 * v1 - d1 * v3, d1 * v2 - d2 * v1]


def dotted(form, numbers):
    return form[0] * numbers[0] + form[1] * numbers[1] + form[2] * numbers[2]


def labels_of(saying):
    return [value for value in vars(saying).values() if isinstance(value, str) and "." in value]


def heap_of(standing, saying):
    """The one heap of all that a saying names; None without a common home."""
    if isinstance(saying, Before):
        return standing.heap_of(saying.mark.picture_name)
    names = [step.picture_name for step in saying.steps] + [label.partition(".")[0] for label in labels_of(saying)]
    heap = standing.heap_of(names[0])
    return heap if all(name in heap.names for name in names) else None


def unsettled(standing, saying, steps):
    found = []
    for step in steps:
        if way_of(standing, step) is None and step not in found:
            found.append(step)
    return "waits", tuple(found) or saying.steps


def plane(standing, one, other):
    ways = [way_of(standing, step) for step in (one, other)]
    if None in ways:
        return None
    numbers = cross(ways[0].direction, ways[1].direction)
    return numbers if any(bool(number) for number in numbers) else None


def between_labels(standing, start, end):
    forms = [home_form(standing, Mark.of_point(label)) for label in (start, end)]
    return [row - other for row, other in zip(forms[1], forms[0])]


def turning(standing, one, other):
    """The settled step's direction and the other step, of an along or a same way."""
    for giver, taker in ((one, other), (other, one)):
        way = way_of(standing, giver)
        if way is not None and taker.terms:
            return way.direction, taker
    return None


def reading(standing, saying):
    """What a saying reads: its kind and what belongs to it."""
    heap = heap_of(standing, saying)
    if heap is None:
        return "waits", saying.steps
    if isinstance(saying, Null):
        return "rows", heap, home_form(standing, saying.step)
    if isinstance(saying, (Along, SameWay)):
        found = turning(standing, saying.one, saying.other)
        if found is not None:
            told, step = found
            form = home_form(standing, step)
            at = [bool(number) for number in told].index(True)
            if isinstance(saying, Along):
                return "rows", heap, crossed(form, told)
            return "same", heap, crossed(form, told), form[at] * Ratio(1, told[at])
        if isinstance(saying, Along) and saying.one.is_plain and saying.other.is_plain:
            name = saying.one.picture_name
            meet = meet_of(standing.book.picture_of(name), saying.one, saying.other) if saying.other.picture_name == name else None
            if meet is not None:
                meet = direction([dot(line, meet) for line in heap.maps[name]])
                return "rows", heap, [row for step in saying.steps for row in crossed(home_form(standing, step), meet)]
        return unsettled(standing, saying, saying.steps)
    if isinstance(saying, Deeper):
        return "row", heap, Row({saying.one: 1}) - Row({saying.other: 1}), "above"
    if isinstance(saying, Before):
        return "row", heap, Row(dict(saying.mark.terms)), "above"
    if isinstance(saying, (InPlane, OnSide, AtLeast)):
        one, other = (saying.side, saying.mate) if isinstance(saying, AtLeast) else (saying.one, saying.other)
        numbers = plane(standing, one, other)
        if numbers is None:
            return unsettled(standing, saying, (one, other))
        if isinstance(saying, InPlane):
            return "row", heap, dotted(home_form(standing, saying.step), numbers), "zero"
        start, end = (saying.base, saying.mate) if isinstance(saying, OnSide) else (saying.one, saying.other)
        whole = dotted(between_labels(standing, start, end), numbers)
        signs = signs_of(heap.cone, whole)
        if type(signs) not in (Above, Below):
            return "waits", (Step.between(start, end),)
        row = dotted(between_labels(standing, start, saying.label), numbers)
        if isinstance(saying, AtLeast):
            row = row - whole * saying.ratio
        return "row", heap, -row if type(signs) is Below else row, "above" if isinstance(saying, OnSide) else "from0"
    ways = [way_of(standing, step) for step in saying.steps]
    if None in ways:
        return unsettled(standing, saying, saying.steps)
    v, w = [way.direction for way in ways]
    if isinstance(saying, (Upright, Sharp, Blunt)):
        row = product_row(v, w)
    else:
        c = together(standing, saying.one, saying.other)
        if c is None:
            return "waits", saying.steps
        row = product_row(v, v) * (saying.q * c * c) - product_row(w, w) * saying.p
    if isinstance(saying, (Upright, Lengths)):
        return "eye", heap, row, "zero"
    return "eye", heap, -row if isinstance(saying, (Blunt, Shorter)) else row, "above"


def word_by(paper, sought):
    """The class of the word that the paper of a row tells."""
    kind = type(paper)
    if kind in (Mixed, MixedEyes):
        return Both
    fits = {"zero": (Zero, ZeroEyes), "above": (Above, AboveEyes), "from0": (Zero, Above)}
    assert kind in (Zero, Above, Below, ZeroEyes, AboveEyes, BelowEyes)
    return Always if kind in fits[sought] else Never


def right_word(standing, saying, value):
    """Whether a value is the right word of a saying, with right papers."""
    kind, *rest = reading(standing, saying)
    if kind == "waits":
        return type(value) is Waits and isinstance(value.steps, tuple) and len(value.steps) == len(rest[0]) and all(
            isinstance(step, Step) and step == other for step, other in zip(value.steps, rest[0]))
    if type(value) not in (Always, Never, Both) or not isinstance(value.papers, tuple):
        return False
    heap, papers = rest[0], value.papers
    if kind == "rows":
        words = {AllZero: Always, NeverAll: Never, Some: Both}
        return len(papers) == 1 and words.get(type(papers[0])) is type(value) and right_signs_of_rows(heap.cone, list(rest[1]), papers[0])
    if kind == "same":
        return right_same_way(heap.cone, rest[1], rest[2], value)
    if len(papers) != 1:
        return False
    row, sought = rest[1:]
    is_right = right_signs(heap.cone, row, papers[0]) if kind == "row" else right_eye_signs(heap.flat, row, papers[0])
    return is_right and word_by(papers[0], sought) is type(value)


def right_same_way(cone, rows, row, value):
    papers = value.papers
    narrowed = Cone(cone.labels, [*cone.zeros, *rows], [*cone.aboves, row])
    if type(value) is Never:
        return len(papers) == 1 and type(papers[0]) is NoScene and right_lies(narrowed, papers[0])
    if len(papers) != 2:
        return False
    if type(value) is Always:
        return type(papers[0]) is AllZero and right_signs_of_rows(cone, rows, papers[0]) and type(papers[1]) is Above and right_signs(
            cone, row, papers[1])
    if not all(type(paper) is Lies for paper in papers):
        return False
    return is_scene(narrowed, papers[0].depths) and is_scene(cone, papers[1].depths) and not is_scene(narrowed, papers[1].depths)
