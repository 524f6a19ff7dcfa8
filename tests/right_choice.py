"""Which papers of clashes, strikes, the cheapest facts and offers are right, reckoned in Fractions, by the parts stood anew."""

from itertools import combinations

from alleyes.bases import Cheapest, Short, offered_row
from alleyes.books import Book
from alleyes.bowl import NoEye
from alleyes.clashes import Against, Clash
from alleyes.flats import Flat
from alleyes.offers import Offers
from alleyes.standing import stand
from alleyes.strikes import NoStrike, Strikes
from alleyes.words import Always, Both, Never, Waits
from tests.bending import is_number
from tests.linked import rank
from tests.right_flats import adds_up, at, four, is_bar, is_eye, numbers_of
from tests.right_links import is_whole
from tests.right_standing import right_paper
from tests.right_words import right_word
from tests.support import value_of


def part(book, numbers):
    return stand(Book(book.pictures, [book.facts[number] for number in sorted(numbers)]))


def subsets(size):
    """All subsets of so many numbers, fewer ones first, as tuples are ordered."""
    return [chosen for many in range(size + 1) for chosen in combinations(range(size), many)]


def are_numbers(value, size):
    if not isinstance(value, tuple) or not all(is_whole(number) and 0 <= number < size for number in value):
        return False
    return list(value) == sorted(set(value))


def is_part(book, numbers, paper, possible):
    standing = part(book, numbers)
    return standing.is_possible is possible and right_paper(standing, paper)


def right_clash(book, value):
    if type(value) is not Clash or not are_numbers(value.numbers, len(book.facts)) or not isinstance(value.spared, tuple):
        return False
    if len(value.spared) != len(value.numbers) or not is_part(book, value.numbers, value.paper, False):
        return False
    return all(is_part(book, set(value.numbers) - {number}, paper, True) for number, paper in zip(value.numbers, value.spared))


def are_clashes(book, value, many):
    """Whether a value is pairs of impossible parts and papers, of which no so many facts, or fewer, have one each."""
    if not isinstance(value, tuple) or not all(isinstance(pair, tuple) and len(pair) == 2 for pair in value):
        return False
    if not all(are_numbers(numbers, len(book.facts)) and is_part(book, numbers, paper, False) for numbers, paper in value):
        return False
    return not any(all(set(chosen) & set(numbers) for numbers, _ in value) for chosen in subsets(len(book.facts)) if len(chosen) <= many)


def right_strikes(book, most, value):
    if type(value) is NoStrike:
        return is_whole(value.most) and value.most == most and are_clashes(book, value.clashes, most)
    if type(value) is not Strikes or not are_numbers(value.numbers, len(book.facts)) or len(value.numbers) > most:
        return False
    left = set(range(len(book.facts))) - set(value.numbers)
    return is_part(book, left, value.paper, True) and are_clashes(book, value.clashes, len(value.numbers) - 1)


def right_against(told, rows, value):
    if type(value) is not Against or not are_numbers(value.numbers, len(rows)):
        return False
    lines = [*told, *[rows[number] for number in value.numbers]]
    return type(value.paper) is NoEye and is_bar(lines, value.paper.parts)


def right_cheapest(standing, offered, prices, value):
    from alleyes.fitting import names_in
    told = standing.heap_of(names_in(offered[0])[0]).flat.lines
    rows = [offered_row(standing, fact) for fact in offered]
    if type(value) is Against:
        return right_against(told, rows, value)
    whole = Flat([*told, *rows])
    if type(value) is Short:
        if not is_whole(value.rank) or value.rank != rank([four(line)[:3] for line in whole.lines]) or not isinstance(value.eyes, tuple):
            return False
        if len(value.eyes) != 2 or not all(is_eye(whole, eye) for eye in value.eyes):
            return False
        return numbers_of(value.eyes[0], 3) != numbers_of(value.eyes[1], 3)
    return type(value) is Cheapest and right_base(told, rows, [value_of(price) for price in prices], value)


def right_base(told, rows, prices, value):
    numbers = value.numbers
    if not are_numbers(numbers, len(rows)) or not is_number(value.price) or value_of(value.price) != sum(prices[number] for number in numbers):
        return False
    lines = [*told, *[rows[number] for number in numbers]]
    if not is_eye(Flat([*told, *rows]), value.eye) or not isinstance(value.axes, tuple) or len(value.axes) != 3:
        return False
    a, b, s = numbers_of(value.eye, 3)
    if not all(adds_up(lines, weights, wanted) for weights, wanted in zip(value.axes, ([1, 0, 0, -a], [0, 1, 0, -b], [0, 0, 1, -s]))):
        return False
    others = [number for number in range(len(rows)) if number not in numbers]
    if not isinstance(value.closes, tuple) or len(value.closes) != len(others):
        return False
    for number, weights in zip(others, value.closes):
        if not adds_up(lines, weights, four(rows[number])):
            return False
        if any(value_of(weight) and prices[mate] > prices[number] for mate, weight in zip(numbers, weights[len(told):])):
            return False
    if not isinstance(value.apart, tuple) or len(value.apart) != len(numbers):
        return False
    for number, eye in zip(numbers, value.apart):
        if not is_eye(Flat([*told, *[rows[other] for other in numbers if other != number]]), eye) or at(rows[number],
                numbers_of(eye, 3)) == 0:
            return False
    return True


def right_offers(standing, offered, value):
    if type(value) is not Offers or not all(isinstance(words, tuple) for words in value.parts):
        return False
    told = []
    for kind, words in zip((Always, Never, Both, Waits), value.parts):
        if not all(isinstance(pair, tuple) and len(pair) == 2 and is_whole(pair[0]) and 0 <= pair[0] < len(offered) for pair in words):
            return False
        numbers = [number for number, _ in words]
        if numbers != sorted(numbers) or not all(type(paper) is kind and right_word(standing, offered[number], paper) for number,
                                                 paper in words):
            return False
        told += numbers
    return sorted(told) == list(range(len(offered)))
