"""Lines of numbers by positions, told one behind another, and what is a sum of them.

A line is a list of pairs (position, number), positions being 0, 1 and so on. All sums are reckoned in integers over
one common divisor, which keeps them short: each is a determinant of told numbers.
"""

from math import gcd, lcm

from alleyes.ratios import Ratio


class Table:
    """What the lines told so far make of the positions.

    makers has for each position the number of the line that stands for it, None where the position stands for itself.
    Each line is a sum of these lines and positions: as many times as spread tells, divided by den.
    scales tells how many times each told line was taken to get integers.
    """

    def __init__(self, backs, den, makers, scales):
        self.backs = backs
        self.den = den
        self.makers = makers
        self.scales = scales


def whole_line(pairs):
    """A line of ratios in integers without a common divisor, and how many times it was taken for it."""
    below, above = 1, 0
    for _, ratio in pairs:
        below, above = lcm(below, ratio.bottom), gcd(above, ratio.top)
    if above == 0:
        return [], Ratio(1)
    # Tops and bottoms have no common divisors, so neither have above and below.
    line = [(at, ratio.top // above * (below // ratio.bottom)) for at, ratio in pairs if ratio.top != 0]
    return line, Ratio(below, above)


def dotted(numbers, line):
    """The product of numbers by positions and a line."""
    return sum([numbers[at] * number for at, number in line])


def spread(rows, line):
    """The products of all rows and a line."""
    return [dotted(row, line) for row in rows]


def pivoted(rows, den, column, at):
    """The rows over a new divisor, abs(column[at]), with column cleared but for the row at."""
    head = abs(column[at])
    chosen = rows[at] if column[at] > 0 else [-number for number in rows[at]]
    return [chosen if k == at else _cleared(rows[k], chosen, head, column[k], den) for k in range(len(rows))]


def _cleared(row, chosen, head, times, den):
    """One row of pivoted; the division leaves no rest, as each result is a determinant of told integers."""
    return [(number * head - times * other) // den for number, other in zip(row, chosen)]


def table_of(lines, size):
    """The Table of lines of ratios over so many positions."""
    backs = [[1 if k == at else 0 for k in range(size)] for at in range(size)]
    table = Table(backs, 1, [None] * size, ())
    for pairs in lines:
        table = _told(table, pairs)
    return table


def _told(table, pairs):
    """The Table with one line more, which stands for the first position that it alone brings."""
    line, scale = whole_line(pairs)
    scales = (*table.scales, scale)
    column = spread(table.backs, line)
    at = _first_own(table, column)
    if at is None:
        return Table(table.backs, table.den, table.makers, scales)
    makers = [len(table.scales) if k == at else table.makers[k] for k in range(len(column))]
    return Table(pivoted(table.backs, table.den, column, at), abs(column[at]), makers, scales)


def _first_own(table, column):
    """The first position that stands for itself and is needed in a line; None if it is a sum of the lines."""
    for at, number in enumerate(column):
        if number != 0 and table.makers[at] is None:
            return at
    return None


def leads_of(table):
    """The positions for which lines stand, ascending: the leading ones."""
    return [at for at, maker in enumerate(table.makers) if maker is not None]


def rest_in(table, pairs):
    """What a line is less a sum of the lines, without leading positions: a line of Ratios."""
    line, scale = whole_line(pairs)
    column = spread(table.backs, line)
    return [(at, Ratio(column[at], table.den).over(scale)) for at, maker in enumerate(table.makers)
            if maker is None and column[at] != 0]


def weights_in(table, pairs):
    """Weights for all lines, of which a line is the sum; None if it is no sum of them."""
    line, scale = whole_line(pairs)
    column = spread(table.backs, line)
    if _first_own(table, column) is not None:
        return None
    weights = [Ratio(0)] * len(table.scales)
    for at in leads_of(table):
        number = table.makers[at]
        weights[number] = (table.scales[number] * Ratio(column[at], table.den)).over(scale)
    return tuple(weights)


def reduced_in(table):
    """The reduced lines: each has 1 at its leading position and 0 at all others."""
    reduced = []
    for lead in leads_of(table):
        line = [(lead, Ratio(1))]
        for at, back in enumerate(table.backs):
            if table.makers[at] is None and back[lead] != 0:
                line.append((at, Ratio(-back[lead], table.den)))
        reduced.append(line)
    return reduced
