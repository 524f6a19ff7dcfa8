"""Words: whether a saying holds always, never, or both ways, or waits."""

from alleyes.asking import ALL_ZERO, FROM_ZERO, IS_ZERO, ROW, SAME_WAY, WAITING, asked_of, check_saying_known
from alleyes.bowl import AboveEyes, MixedEyes, ZeroEyes, signs_at_eyes
from alleyes.cones import Above, AllZero, Lies, Mixed, NeverAll, NoScene, Some, Zero
from alleyes.cones import signs_of, signs_of_rows, some_scene
from alleyes.errors import BadSaying
from alleyes.papers import Denial, Paper
from alleyes.sayings import is_saying
from alleyes.standing import check_standing, check_stands


class Always(Paper):
    """The saying holds at each scene and eye."""

    def __init__(self, papers):
        super().__init__("always", papers)
        self.papers = self.parts[0]


class Both(Paper):
    """The saying holds at some and fails at some."""

    def __init__(self, papers):
        super().__init__("both", papers)
        self.papers = self.parts[0]


class Waits(Paper):
    """The saying waits for these steps."""

    def __init__(self, steps):
        super().__init__("waits", steps)
        self.steps = self.parts[0]


class Never(Denial):
    """The saying fails at each scene and eye."""

    def __init__(self, papers):
        super().__init__("never", papers)
        self.papers = self.parts[0]


def word_of(standing, saying):
    """The Always, Never, Both or Waits of a saying."""
    asked = saying_asked(standing, saying)
    if asked.kind == WAITING:
        return Waits(asked.steps)
    if asked.kind == ALL_ZERO:
        return _word_of_rows(asked)
    if asked.kind == SAME_WAY:
        return _word_of_same_way(asked)
    paper = signs_of(asked.heap.cone, asked.row) if asked.kind == ROW else signs_at_eyes(asked.heap.flat, asked.row)
    return word_with(asked, paper)


def saying_asked(standing, saying):
    """The Asked of a saying; the errors of word_of."""
    check_standing(standing)
    if not is_saying(saying):
        raise BadSaying("saying")
    check_saying_known(standing.book, saying)
    check_stands(standing)
    return asked_of(standing, saying)


def word_with(asked, paper):
    """The word that the paper of a row's signs tells of what is sought."""
    if type(paper) is Mixed or type(paper) is MixedEyes:
        return Both([paper])
    is_zero = type(paper) is Zero or type(paper) is ZeroEyes
    is_above = type(paper) is Above or type(paper) is AboveEyes
    if asked.sought == IS_ZERO:
        holds = is_zero
    elif asked.sought == FROM_ZERO:
        holds = is_zero or is_above
    else:
        holds = is_above
    return Always([paper]) if holds else Never([paper])


def _word_of_rows(asked):
    paper = signs_of_rows(asked.heap.cone, asked.rows)
    if type(paper) is AllZero:
        return Always([paper])
    return Never([paper]) if type(paper) is NeverAll else Both([paper])


def _word_of_same_way(asked):
    cone = asked.heap.cone
    found = some_scene(cone.narrowed(asked.rows, [asked.row]))
    if type(found) is NoScene:
        return Never([found])
    zeros = signs_of_rows(cone, asked.rows)
    if type(zeros) is Some:
        return Both([found, Lies(dict(zeros.apart))])
    signs = signs_of(cone, asked.row)
    if type(signs) is Above:
        return Always([zeros, signs])
    return Both([found, Lies(dict(signs.below))])
