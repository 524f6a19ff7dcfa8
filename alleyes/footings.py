"""Footings: a search, in integers, for a scene of a cone or for a strict sum that reads nothing.

What can stand in a sum goes by numbers: for each label its depth, then the lifts, then the weights. A board tells a
sum of as many of them as there are labels, the held ones, weights held for good. Its heights are depths at which each
held one but the weights is just 1, and each zero row 0. Where all others are from 1 on there, too, they are a scene.
"""

from alleyes.ratios import Ratio
from alleyes.rows import pairs_at
from alleyes.tables import dotted, pivoted, spread, table_of, whole_line


class Frame:
    """The rows of a cone as lines over the positions of its labels."""

    def __init__(self, labels, zeros, aboves):
        self.labels = labels
        self.spots = {label: at for at, label in enumerate(labels)}
        self.zero_table = table_of([pairs_at(row, self.spots) for row in zeros], len(labels))
        lines = [whole_line(pairs_at(row, self.spots)) for row in aboves]
        self.lines = [[(at, 1)] for at in range(len(labels))] + [line for line, _ in lines]
        self.lift_scales = [scale for _, scale in lines]


class Board:
    """What stands while the search goes on, in integers over den.

    rows has for each position a list: how many times the held one there each position needs, and, last, how many
    times the sum needs it; behind these it has the heights.
    """

    def __init__(self, rows, den, held):
        self.rows = rows
        self.den = den
        self.held = held


class Footing:
    """A scene as a dict, and the board on which it was found; or the three parts of a strict sum that reads nothing."""

    def __init__(self, frame, board, bar):
        self.frame = frame
        self.board = board
        self.bar = bar
        self.found = None
        if board is not None:
            self.found = _small_depths(frame, board.rows[-1][:-1])


def footing_of(labels, zeros, aboves):
    """The Footing of a cone with these labels, ascending, and rows."""
    frame = Frame(labels, zeros, aboves)
    board = _first_board(frame)
    entering = _short_one(frame, board)
    while entering is not None:
        column = _column_of(frame, board, entering)
        at = _first_to_go(frame, board, column)
        if at is None:
            return Footing(frame, None, _bar_of(frame, board, column, entering))
        board = _exchanged(board, column, at, entering)
        entering = _short_one(frame, board)
    return Footing(frame, board, None)


def reading(footing, board, row):
    """How a sum reads the row: a triple of the board then, the sum's parts, and a ray.

    If no sum reads it, the parts are None, and at the ray, a dict, the row is below 0; otherwise the ray is None.
    The search goes on from the board, the footing's or one returned before.
    """
    frame = footing.frame
    line, scale = whole_line(pairs_at(row, frame.spots))
    board = _with_sum(board, line)
    at = _lacking_one(frame, board)
    while at is not None:
        entering = _entering_at(frame, board, at)
        if entering is None:
            return board, None, _small_depths(frame, board.rows[at][:-1])
        board = _exchanged(board, _column_of(frame, board, entering), at, entering)
        at = _lacking_one(frame, board)
    return board, _parts_of(frame, _amounts_of(board), Ratio(1, board.den).over(scale)), None


def zero_weights(footing, row):
    """Weights with which the zero rows add up to the row; None if there are none."""
    frame = footing.frame
    line, scale = whole_line(pairs_at(row, frame.spots))
    board = _with_sum(footing.board, line)
    amounts = _amounts_of(board)
    if [held for held in amounts if held < len(frame.lines) and amounts[held] != 0]:
        return None
    weights, _, _ = _parts_of(frame, amounts, Ratio(1, board.den).over(scale))
    return weights


def small_ratios(ratios):
    """How many times some ratios are to be taken to be integers without a common divisor."""
    _, scale = whole_line(list(enumerate(ratios)))
    return scale


def _first_board(frame):
    """The board on which each depth of a label that leads no zero row is needed once."""
    table = frame.zero_table
    own = [at for at, maker in enumerate(table.makers) if maker is None]
    rows = [table.backs[at] + [0 if maker is not None else table.den] for at, maker in enumerate(table.makers)]
    heights = [sum([rows[at][k] for at in own]) for k in range(len(rows) + 1)]
    held = [at if maker is None else len(frame.lines) + maker for at, maker in enumerate(table.makers)]
    return Board(rows + [heights], table.den, held)


def _price_of(frame, board, number):
    """How much more than 1 a depth or a lift is at the heights."""
    return dotted(board.rows[-1], frame.lines[number]) - board.den


def _short_one(frame, board):
    """The first depth or lift that is less than 1 at the heights; None if none is."""
    # Always the first one: so the search never comes back to a board.
    for number in range(len(frame.lines)):
        if _price_of(frame, board, number) < 0:
            return number
    return None


def _column_of(frame, board, number):
    """How many times a depth or a lift needs each of the held ones, and, last, its price."""
    column = spread(board.rows, frame.lines[number])
    return column[:-1] + [column[-1] - board.den]


def _exchanged(board, column, at, number):
    """The board with another one held at this position."""
    held = [number if k == at else board.held[k] for k in range(len(board.held))]
    return Board(pivoted(board.rows, board.den, column, at), abs(column[at]), held)


def _first_to_go(frame, board, column):
    """The position of the held one that first comes to 0 as the one of the column grows; None if none does."""
    best = None
    for at, held in enumerate(board.held):
        if column[at] > 0 and held < len(frame.lines) and (best is None or _goes_ahead(board, column, at, best)):
            best = at
    return best


def _goes_ahead(board, column, at, best):
    """Whether the held one at a position comes to 0 ahead of the best one, or with it and is of a lower number."""
    own = board.rows[at][-1] * column[best]
    least = board.rows[best][-1] * column[at]
    return own < least or (own == least and board.held[at] < board.held[best])


def _bar_of(frame, board, column, entering):
    """The parts of the strict sum that reads nothing: the one that grows, less what it needs of the held ones."""
    amounts = {held: -column[at] for at, held in enumerate(board.held)}
    amounts[entering] = board.den
    weights, lifts, depths = _parts_of(frame, amounts, Ratio(1))
    scale = small_ratios([*weights, *lifts, *[depths[label] for label in depths]])
    return _times(weights, scale), _times(lifts, scale), {label: depths[label] * scale for label in depths}


def _times(ratios, scale):
    return tuple([ratio * scale for ratio in ratios])


def _amounts_of(board):
    """How many times the sum needs each held one, by its number."""
    return {held: board.rows[at][-1] for at, held in enumerate(board.held)}


def _with_sum(board, line):
    """The board whose sum reads the line."""
    rows = [row[:-1] + [dotted(row, line)] for row in board.rows]
    return Board(rows, board.den, board.held)


def _lacking_one(frame, board):
    """The position of the held depth or lift, of the lowest number, that the sum needs less than 0 times."""
    lacking = [(held, at) for at, held in enumerate(board.held)
               if held < len(frame.lines) and board.rows[at][-1] < 0]
    if not lacking:
        return None
    return min(lacking)[1]


def _entering_at(frame, board, at):
    """The one to be held at a position instead, so that all others stay from 1 on at the heights; None if none can."""
    best, best_need, best_price = None, 0, 0
    for number, line in enumerate(frame.lines):
        need = -dotted(board.rows[at], line)
        if need > 0:
            price = _price_of(frame, board, number)
            if best is None or price * best_need < best_price * need:
                best, best_need, best_price = number, need, price
    return best


def _parts_of(frame, amounts, factor):
    """Weights, lifts and depths of a sum, each amount times the factor."""
    size, many = len(frame.labels), len(frame.lines)
    depths = {label: factor * amounts[at] for at, label in enumerate(frame.labels) if amounts.get(at, 0) != 0}
    lifts = [scale * factor * amounts.get(size + k, 0) for k, scale in enumerate(frame.lift_scales)]
    weights = [scale * factor * amounts.get(many + k, 0) for k, scale in enumerate(frame.zero_table.scales)]
    return tuple(weights), tuple(lifts), depths


def _small_depths(frame, numbers):
    """A dict of depths as multiples of the numbers by positions, integers without a common divisor, without 0."""
    line, _ = whole_line([(at, Ratio(number)) for at, number in enumerate(numbers)])
    return {frame.labels[at]: Ratio(number) for at, number in line}
