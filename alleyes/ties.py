"""Ties: which labels show one point, by ties and chains of them."""

from alleyes.checks import picture_of
from alleyes.errors import Twice


def points_of(ties):
    """For each label of the ties the ascending tuple of the labels that show its point, its own one too."""
    points = {}
    for one, other in ties:
        together = {label: True for end in (one, other) for label in points.get(end, (end,))}
        point = tuple(sorted(together))
        for label in point:
            points[label] = point
    return points


def is_doubled(point):
    """Whether a point has two labels of one picture."""
    return len({picture_of(label): True for label in point}) < len(point)


def check_points(points):
    """Twice for the first label, ascending, of a point that has two labels of one picture."""
    for label in sorted(points):
        if is_doubled(points[label]):
            raise Twice(label)


def tied_pairs(points, labels, name):
    """The pairs of one of the labels and the label of the picture of this name that is tied to it."""
    return [(label, tied) for label in labels for tied in points.get(label, ()) if picture_of(tied) == name]
