"""Rounds: facts come to be used, above rows come, heaps join, until nothing more happens or all is impossible."""

from alleyes.bowl import NO_EYE, NoEye, some_eye
from alleyes.cones import NO_SCENE
from alleyes.fitting import names_in, use_of, with_due_above
from alleyes.groups import Group
from alleyes.joining import first_four, groups_by_homes, joined_group
from alleyes.maps import SAME

POSSIBLE = "possible"
NEVER_ONE = "neverone"


class Run:
    """What stands behind all rounds: the word, the groups, those that are barred, and the Four that bars."""

    def __init__(self, word, groups, stages, barred=(), four=None):
        self.word = word
        self.groups = groups
        self.stages = stages
        self.barred = barred
        self.four = four


def run_of(book):
    """The Run of a book."""
    groups = [Group(book, [name], {name: SAME}, []) for name in book.names]
    stage = 0
    while True:
        stage = stage + 1
        newer = _with_new_uses(book, groups, stage)
        moved = newer is not None
        groups = newer if moved else groups
        if (dark := _first_dark(groups)) is not None:
            return Run(NO_SCENE, groups, stage, [dark])
        four = first_four(book, groups)
        if four is not None and four.is_barring:
            return Run(NEVER_ONE, groups, stage, list(groups_by_homes(book, four)), four)
        if four is not None:
            groups = _with_joined(book, groups, four)
            if (dark := _first_dark(groups)) is not None:
                return Run(NO_SCENE, groups, stage, [dark])
        elif not moved:
            return _ended(groups, stage - 1)


def _ended(groups, stages):
    """The Run whose rounds have ended: it is possible, if each flat has an eye."""
    for group in groups:
        if type(some_eye(group.flat)) is NoEye:
            return Run(NO_EYE, groups, stages, [group])
    return Run(POSSIBLE, groups, stages)


def _with_new_uses(book, groups, stage):
    """The groups with all that fits what stands, and with the above rows that are due; None if there is nothing new."""
    used = {use.number: True for group in groups for use in group.uses}
    newer = [_group_with_new(book, group, used, stage) for group in groups]
    if not [group for group in newer if group is not None]:
        return None
    return [elder if group is None else group for elder, group in zip(groups, newer)]


def _group_with_new(book, group, used, stage):
    """The group with its new uses and above rows; None if it has none."""
    due = [with_due_above(group, use, stage) for use in group.uses]
    added = [use_of(group, number, fact, stage) for number, fact in enumerate(book.facts)
             if number not in used and all([name in group.names for name in names_in(fact)])]
    added = [use for use in added if use is not None]
    if not added and not [use for use in due if use is not None]:
        return None
    kept = [use if newer is None else newer for use, newer in zip(group.uses, due)]
    return Group(book, group.names, group.maps, [*kept, *added])


def _first_dark(groups):
    """The first group whose cone has no scene; None if each one has."""
    for group in groups:
        if group.cone.footing.found is None:
            return group
    return None


def _with_joined(book, groups, four):
    """The groups with both groups of a Four made one, in the order of their homes."""
    joined = joined_group(book, four)
    left = [group for group in groups if group.names[0] not in joined.names]
    homes = {group.names[0]: group for group in [*left, joined]}
    return [homes[name] for name in book.names if name in homes]
