"""Cones: which depths fit rows that are 0, and rows above 0."""

from alleyes.checks import first_twice, is_label, is_list
from alleyes.errors import BadCone, BadRow, Impossible, Twice
from alleyes.footings import footing_of, reading, small_ratios, zero_weights
from alleyes.papers import Denial, Paper
from alleyes.ratios import Ratio, is_positive
from alleyes.rows import check_labels_known, check_row, check_rows, value_at
from alleyes.scenes import Scene
from alleyes.spans import free_of

NO_SCENE = "noscene"


class Cone:
    """Labels, zero rows and above rows."""

    def __init__(self, labels, zeros, aboves=()):
        if not is_list(labels) or len(labels) == 0 or not all([is_label(label) for label in labels]):
            raise BadCone("labels")
        check_rows(zeros, "zeros")
        check_rows(aboves, "aboves")
        if (twice := first_twice(labels)) is not None:
            raise Twice(twice)
        check_labels_known([*zeros, *aboves], labels)
        self.labels = tuple(sorted(labels))
        self.zeros = tuple(zeros)
        self.aboves = tuple(aboves)
        self._footing = None

    @property
    def free(self):
        """The labels that lead no reduced zero row, ascending."""
        return free_of(self.zeros, self.labels)

    @property
    def footing(self):
        """The Footing of its labels and rows."""
        if self._footing is None:
            self._footing = footing_of(self.labels, self.zeros, self.aboves)
        return self._footing

    def __len__(self):
        return len(self.labels)

    def __contains__(self, value):
        depths = dict(value.depths) if isinstance(value, Scene) else value
        return isinstance(depths, dict) and is_scene_of(self, depths)

    def __eq__(self, other):
        if not isinstance(other, Cone):
            return False
        return self.labels == other.labels and self.zeros == other.zeros and self.aboves == other.aboves

    def narrowed(self, zeros=(), aboves=()):
        """The cone with these rows behind its own ones."""
        check_rows(zeros, "zeros")
        check_rows(aboves, "aboves")
        return Cone(self.labels, [*self.zeros, *zeros], [*self.aboves, *aboves])


class Lies(Paper):
    """A scene."""

    def __init__(self, depths):
        super().__init__("lies", depths)
        self.depths = self.parts[0]

    @property
    def scene(self):
        """The Scene of these depths."""
        return Scene(dict(self.depths))


class NoScene(Denial):
    """A strict sum that reads nothing."""

    def __init__(self, weights, lifts, depths):
        super().__init__("noscene", weights, lifts, depths)
        self.weights, self.lifts, self.depths = self.parts


class Zero(Paper):
    """The row is this sum of the zero rows."""

    def __init__(self, weights):
        super().__init__("zero", weights)
        self.weights = self.parts[0]


class Above(Paper):
    """A strict sum that reads the row."""

    def __init__(self, weights, lifts, depths):
        super().__init__("above", weights, lifts, depths)
        self.weights, self.lifts, self.depths = self.parts


class Below(Paper):
    """A strict sum that reads the negative of the row."""

    def __init__(self, weights, lifts, depths):
        super().__init__("below", weights, lifts, depths)
        self.weights, self.lifts, self.depths = self.parts


class Mixed(Paper):
    """Three scenes, at which the row is below 0, 0, above 0."""

    def __init__(self, below, zero, above):
        super().__init__("mixed", below, zero, above)
        self.below, self.zero, self.above = self.parts


class AllZero(Paper):
    """For each row weights, with which the zero rows add up to it."""

    def __init__(self, weights):
        super().__init__("allzero", weights)
        self.weights = self.parts[0]


class Some(Paper):
    """A scene at which all rows are 0, and one at which some row is not."""

    def __init__(self, zero, apart):
        super().__init__("some", zero, apart)
        self.zero, self.apart = self.parts


class NeverAll(Denial):
    """A NoScene's parts, of the cone with the rows behind its zero rows."""

    def __init__(self, weights, lifts, depths):
        super().__init__("neverall", weights, lifts, depths)
        self.weights, self.lifts, self.depths = self.parts


def some_scene(cone):
    """A Lies, or a NoScene if the cone has no scene."""
    check_cone(cone)
    footing = cone.footing
    if footing.found is None:
        bar = footing.bar
        return NoScene(*bar)
    return Lies(footing.found)


def signs_of(cone, row):
    """What the row is over the scenes: a Zero, an Above, a Below or a Mixed."""
    check_cone_row(cone, row, "row")
    check_labels_known([row], cone.labels)
    check_possible(cone)
    weights = zero_weights(cone.footing, row)
    if weights is not None:
        return Zero(weights)
    board, above, lower = reading(cone.footing, cone.footing.board, row)
    if above is not None:
        return Above(*above)
    _, below, upper = reading(cone.footing, board, -row)
    if below is not None:
        return Below(*below)
    return _mixed(cone.footing.found, row, lower, upper)


def signs_of_rows(cone, rows):
    """What the rows are together: an AllZero, a Some or a NeverAll."""
    check_cone_rows(cone, rows)
    check_possible(cone)
    weights = [zero_weights(cone.footing, row) for row in rows]
    if None not in weights:
        return AllZero(weights)
    footing = footing_of(cone.labels, [*cone.zeros, *rows], cone.aboves)
    if footing.found is None:
        bar = footing.bar
        return NeverAll(*bar)
    # All rows are 0 at this scene, so one that is no sum of the zero rows is mixed.
    parting = [row for row, its_weights in zip(rows, weights) if its_weights is None]
    return Some(footing.found, _scene_apart(cone, parting[0]))


def is_scene_of(cone, depths):
    """Whether a dict is a scene of the cone."""
    if len(depths) != len(cone.labels) or not all([label in depths for label in cone.labels]):
        return False
    if not all([is_positive(depths[label]) for label in cone.labels]):
        return False
    if not all([value_at(row, depths) == 0 for row in cone.zeros]):
        return False
    return all([value_at(row, depths).sign > 0 for row in cone.aboves])


def check_cone(cone):
    """BadCone for what is no cone."""
    if not isinstance(cone, Cone):
        raise BadCone("cone")


def check_cone_row(cone, row, part):
    """BadCone for what is no cone, BadRow for what is no row."""
    check_cone(cone)
    check_row(row, part)


def check_cone_rows(cone, rows):
    """The errors of a cone and of a list of one or more rows over its labels."""
    check_cone(cone)
    check_rows(rows, "rows")
    if len(rows) == 0:
        raise BadRow("rows")
    check_labels_known(rows, cone.labels)


def check_possible(cone):
    """Impossible for a cone without a scene."""
    if cone.footing.found is None:
        raise Impossible(NO_SCENE)


def _mixed(scene, row, lower, upper):
    """The Mixed of a row, by rays at which it is below and above 0."""
    below, above = _pushed(scene, row, lower), _pushed(scene, row, upper)
    # Both scenes, each so many times as the other one's row is away from 0, make one at which it is 0.
    deep, high = value_at(row, below), value_at(row, above)
    between = {label: below[label] * high - above[label] * deep for label in below}
    scale = small_ratios([between[label] for label in between])
    return Mixed(below, {label: between[label] * scale for label in between}, above)


def _pushed(scene, row, ray):
    """The scene with the ray added as often as it takes to bring the row to the ray's side of 0."""
    now, push = value_at(row, scene), value_at(row, ray)
    if now.sign == push.sign:
        return scene
    needed = abs(now.over(push))
    times = needed.top // needed.bottom + 1
    return {label: scene[label] + ray.get(label, Ratio(0)) * times for label in scene}


def _scene_apart(cone, row):
    """A scene at which a mixed row is below 0."""
    _, _, ray = reading(cone.footing, cone.footing.board, row)
    return _pushed(cone.footing.found, row, ray)
