"""Ways: whether a form goes one way only at all scenes of a cone."""

from alleyes.checks import is_list
from alleyes.cones import Above, check_cone, check_possible
from alleyes.errors import BadRow
from alleyes.footings import reading, zero_weights
from alleyes.papers import Paper
from alleyes.ratios import Ratio
from alleyes.rows import Row, are_rows, check_labels_known, pairs_at, value_at
from alleyes.sheet import direction_of
from alleyes.tables import rest_in


class Way(Paper):
    """The direction, its factor, and what shows them: weights for each part of the form, and an Above."""

    def __init__(self, direction, factor, sums, above):
        super().__init__("way", direction, factor, sums, above)
        self.direction, self.factor, self.sums, self.above = self.parts


def way_in(cone, form):
    """The Way of three rows over the scenes of the cone; None if they are not settled."""
    check_cone(cone)
    if not is_list(form) or len(form) != 3 or not are_rows(form):
        raise BadRow("form")
    check_labels_known(form, cone.labels)
    check_possible(cone)
    found = settled_in(cone, form)
    if found is None:
        return None
    direction, factor = found
    sums = [zero_weights(cone.footing, row - factor * number) for row, number in zip(form, direction)]
    _, above, _ = reading(cone.footing, cone.footing.board, factor)
    return Way(direction, factor, sums, Above(*above))


def settled_in(cone, form):
    """The direction and the factor, a rest of the zero rows, of three rows; None if they are not settled."""
    rests = [rest_in_cone(cone, row) for row in form]
    leads = [rest for rest in rests if not rest.is_nothing]
    if not leads:
        return None
    label = leads[0].labels[0]
    numbers = [rest.ratio_of(label) for rest in rests]
    if not _are_multiples(rests, leads[0], numbers, leads[0].ratio_of(label)):
        return None
    depths = cone.footing.found
    sign = value_at(leads[0], depths).sign * leads[0].ratio_of(label).sign
    if sign == 0:
        return None
    direction = direction_of([number * sign for number in numbers])
    factor = [rest * Ratio(1, number) for rest, number in zip(rests, direction) if number != 0][0]
    _, above, _ = reading(cone.footing, cone.footing.board, factor)
    if above is None:
        return None
    return direction, factor


def rest_in_cone(cone, row):
    """The rest of a row, less a sum of the zero rows of the cone."""
    frame = cone.footing.frame
    pairs = rest_in(frame.zero_table, pairs_at(row, frame.spots))
    return Row({frame.labels[at]: ratio for at, ratio in pairs})


def _are_multiples(rests, lead, numbers, own):
    """Whether each of the rests is the lead, so many times as its number is of the lead's own one."""
    return all([rest * own == lead * number for rest, number in zip(rests, numbers)])
