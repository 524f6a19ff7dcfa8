"""Clashes: facts that are impossible together, and possible with any one of them less; lines that leave no eye."""

from alleyes.books import Book, check_book
from alleyes.bowl import NoEye, Sees, some_eye
from alleyes.checks import first_twice, is_list, is_within
from alleyes.errors import BadNumber, NoFact, TooMany, Twice
from alleyes.flats import Flat, check_flat
from alleyes.papers import Denial
from alleyes.standing import stand

MOST_LINES = 16


class Clash(Denial):
    """The numbers of a clash, the paper of its part, and the Possible of the part without each of them."""

    def __init__(self, numbers, paper, spared):
        super().__init__("clash", numbers, paper, spared)
        self.numbers, self.paper, self.spared = self.parts


class Against(Denial):
    """Indices of lines, or numbers of facts, that leave no eye, and the NoEye that shows it."""

    def __init__(self, numbers, paper):
        super().__init__("against", numbers, paper)
        self.numbers, self.paper = self.parts


def part_of(book, numbers):
    """The part of a book with just the facts of these numbers."""
    check_book(book)
    if not is_list(numbers):
        raise BadNumber("numbers")
    check_fact_numbers(book, numbers)
    return Book(book.pictures, [book.facts[number] for number in sorted(numbers)])


def check_fact_numbers(book, numbers):
    """NoFact for the first of some values that is no number of a fact, then Twice for the first that stood ahead."""
    for number in numbers:
        if not is_within(number, 0, len(book.facts) - 1):
            raise NoFact(number)
    if (twice := first_twice(numbers)) is not None:
        raise Twice(twice)


def clash(book):
    """A Clash of a book; None if it is possible."""
    if stand(book).is_possible:
        return None
    numbers = clashing(book, list(range(len(book.facts))))
    spared = [stand(part_of(book, [other for other in numbers if other != number])).paper for number in numbers]
    return Clash(numbers, stand(part_of(book, numbers)).paper, spared)


def clashing(book, numbers):
    """The numbers of a clash among those of an impossible part."""
    kept = numbers
    for number in numbers:
        fewer = [other for other in kept if other != number]
        if not stand(part_of(book, fewer)).is_possible:
            kept = fewer
    return kept


def fewest_lines(flat):
    """An Against of the fewest lines that leave no eye; None if the flat has one."""
    check_flat(flat)
    if len(flat.lines) > MOST_LINES:
        raise TooMany("lines", MOST_LINES)
    return fewest_against(Flat([]), flat.lines)


def fewest_against(told, rows):
    """An Against of the fewest rows that, with the lines of a flat, leave no eye; None if all leave one."""
    if type(some_eye(told.narrowed(rows))) is Sees:
        return None
    # The reduced lines have the same eyes, and are fewer.
    short, many, found = Flat(told.reduced), 0, None
    while found is None:
        many = many + 1
        found = _first_against(short, rows, [], many)
    return Against(found, some_eye(told.narrowed([rows[number] for number in found])))


def _first_against(told, rows, chosen, many):
    """The chosen rows, and the first so many behind them that leave no eye beside them; None if there are none."""
    if many == 0:
        return chosen if type(some_eye(told)) is NoEye else None
    start = chosen[-1] + 1 if chosen else 0
    for number in range(start, len(rows) - many + 1):
        found = _first_against(told.narrowed([rows[number]]), rows, [*chosen, number], many - 1)
        if found is not None:
            return found
    return None
