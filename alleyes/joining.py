"""Joining: four tied pairs of two pictures, by which two heaps become one, or bar one another."""

from alleyes.groups import Group, direction_found, ratio_together
from alleyes.maps import map_behind, map_taking
from alleyes.ratios import Ratio, added
from alleyes.sheet import cross, determinant
from alleyes.steps import Step
from alleyes.uses import carried

THREE = 3


class Four:
    """Four tied pairs, and of both pictures the groups, the steps, the triples of their ways, and the determinants."""

    def __init__(self, pairs, groups, steps, triples):
        self.ties = pairs
        self.groups = groups
        self.steps = steps
        self.triples = triples
        self.determinants = tuple([_determinant_of(its_triples) for its_triples in triples])

    @property
    def is_flat(self):
        """Whether both determinants are 0."""
        return not any([bool(number) for number in self.determinants])

    @property
    def is_barring(self):
        """Whether the determinants are not of one sign."""
        one, other = self.determinants
        return one.sign != other.sign


def first_four(book, groups):
    """The Four that fits of the first two pictures, ascending, of two groups that have one; None if there is none."""
    homes = {name: group for group in groups for name in group.names}
    for at, one in enumerate(book.names):
        for other in book.names[at + 1:]:
            if homes[one].names[0] != homes[other].names[0]:
                four = _four_of(book.pairs(one, other), (homes[one], homes[other]))
                if four is not None:
                    return four
    return None


def has_settled_four(pairs, groups):
    """Whether of some four pairs the steps from the first one to the others are settled in both pictures."""
    return any([len(_settled_ends(pairs, at, groups)) >= THREE for at in range(len(pairs))])


def joined_group(book, four):
    """The group of both groups of a Four, in the home forms of the first one."""
    one, other, lines = _by_homes(book, four)
    maps = {name: one.maps[name] for name in one.maps}
    for name in other.names:
        maps[name] = map_behind(lines, other.maps[name])
    names = [name for name in book.names if name in maps]
    uses = [*one.uses, *[carried(use, lines) for use in other.uses]]
    return Group(book, names, maps, uses)


def groups_by_homes(book, four):
    """Both groups of a Four, by their homes."""
    one, other = four.groups
    if book.names.index(one.names[0]) < book.names.index(other.names[0]):
        return one, other
    return other, one


def _by_homes(book, four):
    """The groups by their homes, and the map that takes the home forms of the later one to those of the other."""
    one, other = groups_by_homes(book, four)
    triples = {group.names[0]: its_triples for group, its_triples in zip(four.groups, four.triples)}
    return one, other, map_taking(triples[other.names[0]], triples[one.names[0]])


def _four_of(pairs, groups):
    """The first Four of these pairs that fits; None if there is none."""
    for at in range(len(pairs) - THREE):
        ends = _settled_ends(pairs, at, groups)
        if _leave_a_plane(pairs, at, ends, groups):
            for three in _threes_of(ends):
                four = _four_with(pairs, at, three, groups)
                if not four.is_flat:
                    return four
    return None


def _settled_ends(pairs, start, groups):
    """The pairs behind the start to which the steps from there are settled in both pictures."""
    return [end for end in range(start + 1, len(pairs)) if _are_settled(_steps_to(pairs, start, end), groups)]


def _leave_a_plane(pairs, start, ends, groups):
    """Whether in one of the pictures the steps from the start to the ends do not lie in one plane."""
    steps = [_steps_to(pairs, start, end) for end in ends]
    directions = [[direction_found(group, both[side]) for both in steps] for side, group in enumerate(groups)]
    return any([_span_space(found) for found in directions])


def _span_space(directions):
    """Whether three of the directions do not lie in one plane."""
    normals = [cross(directions[0], other) for other in directions[1:]]
    normals = [normal for normal in normals if any([bool(number) for number in normal])]
    if not normals:
        return False
    return any([added([a * b for a, b in zip(normals[0], other)]) != 0 for other in directions])


def _threes_of(ends):
    """All threes of the ends, ascending, pair by pair.

    The steps to them are together, as the depth of the label at the start is a multiple of the factor of each.
    """
    return [(first, second, third) for at, first in enumerate(ends) for k, second in enumerate(ends[at + 1:])
            for third in ends[at + k + 2:]]


def _steps_to(pairs, start, end):
    """The steps in both pictures from one pair to another one."""
    return [Step.between(one, other) for one, other in zip(pairs[start], pairs[end])]


def _are_settled(steps, groups):
    return all([direction_found(group, step) is not None for group, step in zip(groups, steps)])


def _four_with(pairs, start, ends, groups):
    """The Four of the pair at the start, and of three others."""
    both = [_steps_to(pairs, start, end) for end in ends]
    steps = list(zip(*both))
    triples = tuple([_triples_of(group, its_steps) for group, its_steps in zip(groups, steps)])
    return Four((pairs[start], *[pairs[end] for end in ends]), groups, steps, triples)


def _triples_of(group, steps):
    """The directions of three steps that are together, each as often as its factor is that of the first one."""
    found = []
    for step in steps:
        ratio = ratio_together(group, step, steps[0])
        found.append(tuple([Ratio(number) * ratio for number in direction_found(group, step)]))
    return found


def _determinant_of(triples):
    first, second, third = triples
    return determinant(first, second, third)
