"""Stories: deed lines of desks, played back, merged, compared."""

from alleyes.checks import is_list
from alleyes.desk import Desk
from alleyes.errors import BadDesk, BadLine, BadText, EyesError
from alleyes.reader import ASKS, first_word


def replay(lines):
    """A new desk that is told these deed lines."""
    if not is_list(lines) or not all([isinstance(line, str) for line in lines]):
        raise BadDesk("lines")
    desk = Desk()
    for at, line in enumerate(lines):
        if first_word(line) in ASKS:
            raise BadLine(at, BadText(0, 0))
        try:
            desk(line)
        except EyesError as why:
            raise BadLine(at, why)
    return desk


def merged(one, other):
    """A new desk with the story of one, then that of other, but for shared lines; and which lines it refuses."""
    shared = parting(one, other)
    desk = replay(one.story)
    refused = []
    for at, line in enumerate(other.story):
        if at >= shared and not _is_done(desk, line):
            refused.append(at)
    return desk, tuple(refused)


def parting(one, other):
    """How many lines both stories begin with alike."""
    if not isinstance(one, Desk):
        raise BadDesk("one")
    if not isinstance(other, Desk):
        raise BadDesk("other")
    shared = 0
    for line, mate in zip(one.story, other.story):
        if line != mate:
            return shared
        shared = shared + 1
    return shared


def _is_done(desk, line):
    """Whether a desk does the line that it is told; otherwise it refuses it."""
    try:
        desk(line)
    except EyesError:
        return False
    return True
