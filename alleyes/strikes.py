"""Strikes: the fewest facts of a book that leave it possible when they are struck."""

from alleyes.books import check_book
from alleyes.checks import is_within
from alleyes.clashes import clashing, part_of
from alleyes.errors import BadNumber, TooMany
from alleyes.papers import Denial, Paper
from alleyes.standing import stand

MOST_STRUCK = 2
MOST_FACTS = 12


class Strikes(Paper):
    """The numbers of the facts, the Possible of the part of the others, and clashes that fewer facts do not strike."""

    def __init__(self, numbers, paper, clashes):
        super().__init__("strikes", numbers, paper, clashes)
        self.numbers, self.paper, self.clashes = self.parts


class NoStrike(Denial):
    """Clashes that so many facts do not strike."""

    def __init__(self, most, clashes):
        super().__init__("nostrike", most, clashes)
        self.most, self.clashes = self.parts


def strikes(book, most):
    """A Strikes of the fewest facts, at most so many, that can be struck; a NoStrike if there are none."""
    check_strikes_asked(book, most)
    if len(book.facts) > MOST_FACTS:
        raise TooMany("facts", MOST_FACTS)
    clashes = []
    for many in range(most + 1):
        for numbers in choices(len(book.facts), many):
            if hits_each(numbers, clashes):
                left = [number for number in range(len(book.facts)) if number not in numbers]
                paper = stand(part_of(book, left)).paper
                if paper:
                    return Strikes(numbers, paper, _with_papers(book, clashes))
                clashes.append(clashing(book, left))
    return NoStrike(most, _with_papers(book, clashes))


def check_strikes_asked(book, most):
    """BadBook for what is no book, BadNumber for what is no integer from 0 to 2."""
    check_book(book)
    if not is_within(most, 0, MOST_STRUCK):
        raise BadNumber("most")


def choices(size, many):
    """All tuples of so many of the numbers below the size, ascending, as tuples are ordered."""
    found = [()]
    for _ in range(many):
        found = [(*chosen, number) for chosen in found for number in range(_behind(chosen), size)]
    return found


def hits_each(numbers, clashes):
    """Whether each of the clashes has one of the numbers."""
    return all([any([number in part for number in numbers]) for part in clashes])


def _behind(chosen):
    """The least number behind those that are chosen."""
    return chosen[-1] + 1 if chosen else 0


def _with_papers(book, clashes):
    """The clashes, each with the paper of its part."""
    return [(numbers, stand(part_of(book, numbers)).paper) for numbers in clashes]
