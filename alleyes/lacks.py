"""Lacks: how many facts of eyes the heaps lack until each has one eye, and what facts lower."""

from alleyes.bowl import eyes_around
from alleyes.errors import BadFact, TooMany
from alleyes.facts import are_facts
from alleyes.highest import RANK_OF_ONE
from alleyes.papers import Paper
from alleyes.standing import check_standing, check_stands, stand
from alleyes.tables import leads_of

MOST_ASKED = 12


class Lacks(Paper):
    """How much the heap of a home lacks: lines whose left sides have its rank, and eyes that do not lie closer."""

    def __init__(self, home, number, leads, eyes):
        super().__init__("lacks", home, number, leads, eyes)
        self.home, self.number, self.leads, self.eyes = self.parts


def lacking(standing):
    """A Lacks for each heap."""
    check_standing(standing)
    check_stands(standing)
    return tuple([_lacks_of(heap) for heap in standing.heaps])


def what_lowers(standing, facts):
    """For each fact, put in by itself, whether it bars or waits, or how much less the heaps lack with it."""
    check_standing(standing)
    if not are_facts(facts):
        raise BadFact("facts")
    books = [standing.book.with_fact(fact) for fact in facts]
    check_stands(standing)
    if len(facts) > MOST_ASKED:
        raise TooMany("facts", MOST_ASKED)
    return tuple([_lowered(standing, stand(book)) for book in books])


def number_lacking(heap):
    """How much a heap lacks."""
    return RANK_OF_ONE - heap.flat.rank


def _lacks_of(heap):
    table = heap.flat.table
    # A flat with an eye makes no line of the one row, so each leading place is one of the left sides.
    leads = sorted([table.makers[at] for at in leads_of(table)])
    return Lacks(heap.home, number_lacking(heap), leads, eyes_around(heap.flat))


def _lowered(standing, newer):
    """What the last fact of the newer standing does."""
    if not newer.is_possible:
        return "bars", 0
    if len(newer.book.facts) - 1 in newer.waiting:
        return "waits", 0
    return "used", _all_lacking(standing) - _all_lacking(newer)


def _all_lacking(standing):
    return sum([number_lacking(heap) for heap in standing.heaps])
