"""Offers: what facts that are not told would bring."""

from alleyes.asking import check_saying_known
from alleyes.books import check_fact_known
from alleyes.checks import is_list
from alleyes.errors import BadFact, BadSaying, TooMany
from alleyes.facts import Fact, are_facts
from alleyes.papers import Paper
from alleyes.sayings import is_saying
from alleyes.standing import check_standing, check_stands, stand
from alleyes.words import Always, Both, Never, Waits, word_of

MOST_OFFERED = 12
MOST_SAYINGS = 12


class Offers(Paper):
    """Pairs of a number and a word: of offered facts that follow, that bar, that are open, and that wait."""

    def __init__(self, follows, bars, opens, waits):
        super().__init__("offers", follows, bars, opens, waits)
        self.follows, self.bars, self.opens, self.waits = self.parts


class Next(Paper):
    """The fact that leaves the fewest sayings open, and for each fact how many it leaves, None if it is impossible."""

    def __init__(self, number, counts):
        super().__init__("next", number, counts)
        self.number, self.counts = self.parts


def sorted_offers(standing, offered):
    """The Offers of facts that are sayings."""
    check_offered(standing, offered)
    if len(offered) > MOST_OFFERED:
        raise TooMany("offered", MOST_OFFERED)
    words = [(number, word_of(standing, fact)) for number, fact in enumerate(offered)]
    follows = [pair for pair in words if type(pair[1]) is Always]
    bars = [pair for pair in words if type(pair[1]) is Never]
    opens = [pair for pair in words if type(pair[1]) is Both]
    return Offers(follows, bars, opens, [pair for pair in words if type(pair[1]) is Waits])


def next_measure(standing, offered, sayings):
    """The Next of offered facts, by sayings that are to be open no more."""
    check_standing(standing)
    if not are_facts(offered):
        raise BadFact("offered")
    if not is_list(sayings) or not all([is_saying(saying) for saying in sayings]):
        raise BadSaying("sayings")
    for fact in offered:
        check_fact_known(standing.book, fact)
    for saying in sayings:
        check_saying_known(standing.book, saying)
    books = [standing.book.with_fact(fact) for fact in offered]
    check_stands(standing)
    if len(offered) > MOST_OFFERED:
        raise TooMany("offered", MOST_OFFERED)
    if len(sayings) > MOST_SAYINGS:
        raise TooMany("sayings", MOST_SAYINGS)
    counts = [_open_in(stand(book), sayings) for book in books]
    told = [count for count in counts if count is not None]
    return Next(counts.index(min(told)) if told else None, counts)


def check_offered(standing, offered):
    """The errors of sorted_offers but the last one."""
    check_standing(standing)
    if not is_list(offered) or not all([isinstance(fact, Fact) and is_saying(fact) for fact in offered]):
        raise BadFact("offered")
    for fact in offered:
        check_fact_known(standing.book, fact)
    check_stands(standing)


def _open_in(standing, sayings):
    """How many of the sayings are open; None of an impossible book."""
    if not standing.is_possible:
        return None
    words = [word_of(standing, saying) for saying in sayings]
    return len([word for word in words if type(word) is Both or type(word) is Waits])
