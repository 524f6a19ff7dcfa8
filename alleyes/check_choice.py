"""Whether papers of clashes, of the cheapest facts, of strikes and of offers are right."""

from alleyes.bases import Cheapest, Short, offer_asked, rows_to
from alleyes.books import check_book
from alleyes.bowl import NoEye
from alleyes.check_eyes import adds_up, is_eye_in, shows_sees
from alleyes.check_standing import shows_paper
from alleyes.check_words import shows_word
from alleyes.checks import is_integer, is_within
from alleyes.clashes import Against, Clash, part_of
from alleyes.flats import Flat, check_flat, row_at
from alleyes.highest import RANK_OF_ONE
from alleyes.offers import Offers, check_offered
from alleyes.ratios import added, ratios_of
from alleyes.standing import stand
from alleyes.strikes import NoStrike, Strikes, check_strikes_asked, choices, hits_each
from alleyes.words import Always, Both, Never, Waits


def shows_clash(book, value):
    """Whether value is a right Clash of a book."""
    check_book(book)
    if type(value) is not Clash or not _are_numbers(value.numbers, len(book.facts)):
        return False
    if not isinstance(value.spared, tuple) or len(value.spared) != len(value.numbers):
        return False
    if not _is_impossible_part(book, value.numbers, value.paper):
        return False
    fewer = [[other for other in value.numbers if other != number] for number in value.numbers]
    return all([_is_possible_part(book, numbers, paper) for numbers, paper in zip(fewer, value.spared)])


def shows_against(flat, value):
    """Whether value is an Against of lines that leave no eye."""
    check_flat(flat)
    return _is_against(Flat([]), flat.lines, value)


def shows_cheapest(standing, offered, prices, value):
    """Whether value is a right Cheapest, Short or Against of offered facts."""
    offer = offer_asked(standing, offered, prices)
    if type(value) is Against:
        return _is_against(offer.flat, offer.rows, value)
    if type(value) is Short:
        return _is_short(offer.flat.narrowed(offer.rows), value)
    if type(value) is not Cheapest or not _are_numbers(value.numbers, len(offer.rows)):
        return False
    return _is_enough(offer, value) and _closes(offer, value) and _has_none_to_spare(offer, value)


def shows_strikes(book, most, value):
    """Whether value is a right Strikes of at most so many facts, or a right NoStrike."""
    check_strikes_asked(book, most)
    if type(value) is NoStrike:
        return is_integer(value.most) and value.most == most and _are_clashes(book, value.clashes, most)
    if type(value) is not Strikes or not _are_numbers(value.numbers, len(book.facts)) or len(value.numbers) > most:
        return False
    left = [number for number in range(len(book.facts)) if number not in value.numbers]
    fewer = len(value.numbers) - 1
    return _is_possible_part(book, left, value.paper) and _are_clashes(book, value.clashes, fewer)


def shows_offers(standing, offered, value):
    """Whether value is the Offers of facts that are sayings, with right words."""
    check_offered(standing, offered)
    if type(value) is not Offers or not all([_are_words(standing, offered, part) for part in value.parts]):
        return False
    numbers = [number for part in value.parts for number, _ in part]
    if sorted(numbers) != list(range(len(offered))):
        return False
    follows, bars, opens, waits = [[paper for _, paper in part] for part in value.parts]
    return all([type(paper) is Always for paper in follows]) and all([type(paper) is Never for paper in bars]) and (
        all([type(paper) is Both for paper in opens]) and all([type(paper) is Waits for paper in waits]))


def _are_numbers(value, size):
    """Whether any value is a tuple of different integers from 0 on below the size, ascending."""
    if not isinstance(value, tuple) or not all([is_within(number, 0, size - 1) for number in value]):
        return False
    return all([one < other for one, other in zip(value, value[1:])])


def _is_impossible_part(book, numbers, paper):
    standing = stand(part_of(book, numbers))
    return not standing.is_possible and shows_paper(standing, paper)


def _is_possible_part(book, numbers, paper):
    standing = stand(part_of(book, numbers))
    return standing.is_possible and shows_paper(standing, paper)


def _is_against(told, rows, value):
    """Whether value is an Against of rows that leave no eye beside the lines of a flat."""
    if type(value) is not Against or not _are_numbers(value.numbers, len(rows)):
        return False
    flat = told.narrowed([rows[number] for number in value.numbers])
    return type(value.paper) is NoEye and shows_sees(flat, value.paper)


def _is_short(whole, value):
    """Whether value tells the rank of a flat, and two of its eyes."""
    if not is_integer(value.rank) or value.rank != whole.rank:
        return False
    if not isinstance(value.eyes, tuple) or len(value.eyes) != 2:
        return False
    one, other = value.eyes
    return is_eye_in(whole, one) and is_eye_in(whole, other) and ratios_of(one, 3) != ratios_of(other, 3)


def _is_enough(offer, value):
    """Whether the price and the eye of a Cheapest are right, and its axes show that there is no other eye."""
    if added([offer.prices[number] for number in value.numbers]) != value.price:
        return False
    if not is_eye_in(offer.flat.narrowed(offer.rows), value.eye):
        return False
    if not isinstance(value.axes, tuple) or len(value.axes) != RANK_OF_ONE:
        return False
    a, b, s = ratios_of(value.eye, 3)
    chosen = _chosen_flat(offer, value.numbers)
    return all([adds_up(chosen, weights, row) for weights, row in zip(value.axes, rows_to(a, b, s))])


def _closes(offer, value):
    """Whether all other rows are sums of told lines and of chosen rows that are not dearer."""
    others = [number for number in range(len(offer.rows)) if number not in value.numbers]
    if not isinstance(value.closes, tuple) or len(value.closes) != len(others):
        return False
    chosen = _chosen_flat(offer, value.numbers)
    if not all([adds_up(chosen, weights, offer.rows[number]) for number, weights in zip(others, value.closes)]):
        return False
    many = len(offer.flat.lines)
    return not [number for number, weights in zip(others, value.closes)
                for mate, weight in zip(value.numbers, weights[many:])
                if weight != 0 and offer.prices[number].is_below(offer.prices[mate])]


def _has_none_to_spare(offer, value):
    """Whether without any one of the chosen rows an eye is left at which it is not 0."""
    if not isinstance(value.apart, tuple) or len(value.apart) != len(value.numbers):
        return False
    for number, eye in zip(value.numbers, value.apart):
        rest = _chosen_flat(offer, [other for other in value.numbers if other != number])
        if not is_eye_in(rest, eye) or row_at(offer.rows[number], ratios_of(eye, 3)) == 0:
            return False
    return True


def _chosen_flat(offer, numbers):
    """The flat of the told lines and of the rows of these numbers."""
    return offer.flat.narrowed([offer.rows[number] for number in numbers])


def _are_clashes(book, value, many):
    """Whether any value is right clashes, and no so many facts, or fewer, have one of each."""
    if not isinstance(value, tuple) or not all([_is_clash_of(book, pair) for pair in value]):
        return False
    parts = [numbers for numbers, _ in value]
    return not any([hits_each(numbers, parts) for fewer in range(many + 1)
                    for numbers in choices(len(book.facts), fewer)])


def _is_clash_of(book, pair):
    """Whether any value is a pair of the numbers of an impossible part, and its paper."""
    if not isinstance(pair, tuple) or len(pair) != 2 or not _are_numbers(pair[0], len(book.facts)):
        return False
    return _is_impossible_part(book, pair[0], pair[1])


def _are_words(standing, offered, value):
    """Whether any value is pairs of the number of an offered fact and its right word, ascending."""
    if not isinstance(value, tuple) or not all([isinstance(pair, tuple) and len(pair) == 2 for pair in value]):
        return False
    if not _are_numbers(tuple([number for number, _ in value]), len(offered)):
        return False
    return all([shows_word(standing, offered[number], paper) for number, paper in value])
