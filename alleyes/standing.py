"""Standings: what stands of a book, heap by heap, or why it is impossible."""

from alleyes.books import check_book, check_part_known, check_picture_name
from alleyes.bowl import NO_EYE, some_eye
from alleyes.cones import NO_SCENE, some_scene
from alleyes.errors import BadStanding, BadStep, Impossible
from alleyes.groups import home_form_in, is_side, side_ratio, times_of
from alleyes.papers import Denial, Paper
from alleyes.rounds import POSSIBLE, run_of
from alleyes.rows import Row
from alleyes.sheet import direction_of
from alleyes.steps import Mark, Step, check_mark, check_step
from alleyes.ways import Way, settled_in, way_in


class Heap:
    """Pictures that are joined: their maps, their cone, their flat, and where each row comes from."""

    def __init__(self, group):
        self.names = group.names
        self.home = group.names[0]
        self.cone = group.cone
        self.flat = group.flat
        self.maps = {name: group.maps[name] for name in sorted(group.maps)}
        self.places = group.places
        self.sources = group.sources
        self.above_sources = group.above_sources
        self.eye_sources = group.eye_sources
        self.group = group


class Standing:
    """What stands of a book."""

    def __init__(self, book, run):
        self.book = book
        self.rounds = run.stages
        self.barred = tuple([Heap(group) for group in run.barred])
        possible = run.word == POSSIBLE
        self.heaps = tuple([Heap(group) for group in run.groups]) if possible else ()
        numbers = sorted([use.number for group in run.groups for use in group.uses]) if possible else []
        self.used = tuple(numbers)
        self.waiting = tuple([number for number in range(len(book.facts)) if number not in numbers]) if possible else ()
        self.paper = _paper_of(run, self.heaps, self.barred)

    @property
    def is_possible(self):
        """Whether the book is possible."""
        return bool(self.paper)

    def heap_of(self, name):
        """The Heap of the picture of this name."""
        check_picture_name(self.book, name)
        check_stands(self)
        return heap_among(self.heaps, name)


class Possible(Paper):
    """A Lies and a Sees for each heap."""

    def __init__(self, scenes, eyes):
        super().__init__("possible", scenes, eyes)
        self.scenes, self.eyes = self.parts


class NeverOne(Denial):
    """Four tied pairs, the determinants of both pictures, not of one sign, and the Ways of their steps."""

    def __init__(self, ties, one, other, ways):
        super().__init__("neverone", ties, one, other, ways)
        self.ties, self.one, self.other, self.ways = self.parts


def stand(book):
    """The Standing of a book."""
    check_book(book)
    return Standing(book, run_of(book))


def home_form(standing, value):
    """The home form of a step or a mark: three rows, of right and up three integers."""
    check_standing(standing)
    if not isinstance(value, (Step, Mark)):
        raise BadStep("value")
    check_part_known(standing.book, value)
    check_stands(standing)
    return form_in_heap(standing, value)


def place_in(standing, mark):
    """The ratios of a mark times the places of its labels, added up."""
    check_standing(standing)
    check_mark(mark, "mark")
    check_part_known(standing.book, mark)
    check_stands(standing)
    places = heap_among(standing.heaps, mark.picture_name).places
    total = (Row({}), Row({}), Row({}))
    for label, ratio in mark.terms:
        total = tuple([row + part * ratio for row, part in zip(total, places[label])])
    return total


def way_of(standing, step):
    """The Way of a step, None if it is not settled."""
    check_standing(standing)
    check_step(step, "step")
    check_part_known(standing.book, step)
    check_stands(standing)
    return way_in_heap(heap_among(standing.heaps, step.picture_name), form_in_heap(standing, step), is_side(step))


def together(standing, one, other):
    """How many times the factor of other that of one is; None if they are not together."""
    check_standing(standing)
    check_step(one, "one")
    check_step(other, "other")
    check_part_known(standing.book, one)
    check_part_known(standing.book, other)
    check_stands(standing)
    heap = heap_among(standing.heaps, one.picture_name)
    if other.picture_name not in heap.names:
        return None
    if is_side(one) or is_side(other):
        return side_ratio(heap.maps, one, other)
    factors = [settled_in(heap.cone, form_in_heap(standing, step)) for step in (one, other)]
    if None in factors:
        return None
    return times_of(factors[0][1], factors[1][1])


def check_standing(standing):
    """BadStanding for what is no standing."""
    if not isinstance(standing, Standing):
        raise BadStanding("standing")


def check_stands(standing):
    """Impossible, with the word of the denial, unless the book is possible."""
    if not standing.paper:
        raise Impossible(standing.paper.word)


def heap_among(heaps, name):
    """The heap that has the picture of this name."""
    return [heap for heap in heaps if name in heap.names][0]


def form_in_heap(standing, value):
    """The home form of a step or a mark of the book."""
    heap = heap_among(standing.heaps, value.picture_name)
    return home_form_in(standing.book, heap.maps, value)


def way_in_heap(heap, form, is_told):
    """The Way of a home form in a heap; of right and up it is told."""
    if is_told:
        return Way(direction_of(form), None, (), None)
    return way_in(heap.cone, form)


def _paper_of(run, heaps, barred):
    """The paper of what stands."""
    if run.word == POSSIBLE:
        return Possible([some_scene(heap.cone) for heap in heaps], [some_eye(heap.flat) for heap in heaps])
    if run.word == NO_SCENE:
        return some_scene(barred[0].cone)
    if run.word == NO_EYE:
        return some_eye(barred[0].flat)
    return _never_one(run.four)


def _never_one(four):
    """The NeverOne of a Four that bars."""
    one, other = four.determinants
    ways = [way_in(group.cone, home_form_in(group.book, group.maps, step))
            for group, steps in zip(four.groups, four.steps) for step in steps]
    return NeverOne(four.ties, one, other, ways)
