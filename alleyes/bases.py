"""Bases: which offered facts of eyes are enough for one eye at the least price."""

from alleyes.books import check_fact_known
from alleyes.bowl import eyes_around
from alleyes.checks import is_list
from alleyes.clashes import fewest_against
from alleyes.errors import BadFact, BadNumber, NotJoined, TooMany
from alleyes.facts import Far, Lengths, Upright
from alleyes.fitting import names_in, use_of
from alleyes.flats import EyeRow, row_at
from alleyes.highest import RANK_OF_ONE
from alleyes.papers import Denial, Paper
from alleyes.ratios import Ratio, added, are_ratios
from alleyes.standing import check_standing, check_stands, heap_among
from alleyes.uses import eye_rows_of

MOST_OFFERED = 12


class Cheapest(Paper):
    """Facts that are enough at the least price, the one eye, and the weights and eyes that show it."""

    def __init__(self, numbers, price, eye, axes, closes, apart):
        super().__init__("cheapest", numbers, price, eye, axes, closes, apart)
        self.numbers, self.price, self.eye, self.axes, self.closes, self.apart = self.parts


class Short(Denial):
    """The rank that all rows have, and two eyes that they leave."""

    def __init__(self, rank, eyes):
        super().__init__("short", rank, eyes)
        self.eyes = self.parts[1]

    @property
    def rank(self):
        """The rank of the left sides of all rows."""
        return self.parts[0]


class Offer:
    """What is offered: the flat of the told lines, and for each offered fact its row and its price."""

    def __init__(self, flat, rows, prices):
        self.flat = flat
        self.rows = rows
        self.prices = prices


def offered_row(standing, fact):
    """The eye row that a fact would give; None if it would wait."""
    check_standing(standing)
    if not is_offered(fact):
        raise BadFact("fact")
    check_fact_known(standing.book, fact)
    check_stands(standing)
    return _row_of(heap_among(standing.heaps, names_in(fact)[0]), fact)


def cheapest(standing, offered, prices):
    """A Cheapest, a Short or an Against of offered facts."""
    offer = offer_asked(standing, offered, prices)
    if len(offered) > MOST_OFFERED:
        raise TooMany("offered", MOST_OFFERED)
    against = fewest_against(offer.flat, offer.rows)
    if against is not None:
        return against
    whole = offer.flat.narrowed(offer.rows)
    if whole.rank < RANK_OF_ONE:
        return Short(whole.rank, eyes_around(whole)[:2])
    numbers = _base_of(offer)
    chosen = offer.flat.narrowed([offer.rows[number] for number in numbers])
    a, b, s = eyes_around(chosen)[0]
    axes = [chosen.weights_of(row) for row in rows_to(a, b, s)]
    # The chosen rows bring each of them something new, so dearer ones than a row have no part in its sum.
    closes = [chosen.weights_of(row) for number, row in enumerate(offer.rows) if number not in numbers]
    price = added([offer.prices[number] for number in numbers])
    return Cheapest(numbers, price, (a, b, s), axes, closes, [_eye_apart(offer, numbers, number) for number in numbers])


def is_offered(value):
    """Whether any value is an Upright, a Lengths or a Far."""
    return isinstance(value, (Upright, Lengths, Far))


def offer_asked(standing, offered, prices):
    """The Offer of facts and prices; the errors of cheapest but the last one."""
    check_standing(standing)
    if not is_list(offered) or len(offered) == 0 or not all([is_offered(fact) for fact in offered]):
        raise BadFact("offered")
    if not are_ratios(prices) or len(prices) != len(offered) or [price for price in prices if Ratio.of(price).sign < 0]:
        raise BadNumber("prices")
    for fact in offered:
        check_fact_known(standing.book, fact)
    check_stands(standing)
    home = names_in(offered[0])[0]
    heap = heap_among(standing.heaps, home)
    for fact in offered:
        for name in names_in(fact):
            if name not in heap.names:
                raise NotJoined(home, name)
    rows = [_row_of(heap, fact) for fact in offered]
    if [row for row in rows if row is None]:
        raise BadFact("offered")
    return Offer(heap.flat, rows, [Ratio.of(price) for price in prices])


def rows_to(a, b, s):
    """The eye rows A - a, B - b, and s less that of an eye."""
    return EyeRow(1, 0, 0, -a), EyeRow(0, 1, 0, -b), EyeRow(0, 0, 1, -s)


def _row_of(heap, fact):
    """The eye row that a fact would give in a heap; None if it would wait."""
    if not all([name in heap.names for name in names_in(fact)]):
        return None
    use = use_of(heap.group, 0, fact, 0)
    return None if use is None else eye_rows_of(use, heap.maps)[0]


def _base_of(offer):
    """Numbers of facts that are enough at the least price: cheaper ones first, without those that bring nothing."""
    flat, numbers = offer.flat, []
    keys = sorted([(_key_of(offer.prices, price), number) for number, price in enumerate(offer.prices)])
    for _, number in keys:
        if flat.weights_of(offer.rows[number]) is None:
            flat = flat.narrowed([offer.rows[number]])
            numbers.append(number)
    return sorted(numbers)


def _key_of(prices, price):
    """How many of the prices are below a price."""
    return len([other for other in prices if other.is_below(price)])


def _eye_apart(offer, numbers, number):
    """An eye at which the told lines and the rows of the other numbers are 0, but not the row of this one."""
    rest = offer.flat.narrowed([offer.rows[other] for other in numbers if other != number])
    return [eye for eye in eyes_around(rest) if row_at(offer.rows[number], eye) != 0][0]
