"""Forms: what steps and marks are at scenes, and where that lies in space."""

from alleyes.errors import BadRow, BadScene, BadStep, NoLabel, NoPicture
from alleyes.eyes import check_eye
from alleyes.pictures import check_picture
from alleyes.ratios import ratios_of, triple_of
from alleyes.rows import Row, are_rows, value_at
from alleyes.scenes import Scene
from alleyes.steps import RIGHT, Mark, Step

RIGHT_FORM = (1, 0, 0)
UP_FORM = (0, 1, 0)


def form_of(picture, value):
    """The form of a step or a mark: three rows, or the three integers of right and up."""
    check_picture(picture)
    if not isinstance(value, (Step, Mark)):
        raise BadStep("value")
    if isinstance(value, Step) and value.side is not None:
        if value.picture_name != picture.name:
            raise NoPicture(value.picture_name)
        return RIGHT_FORM if value.side == RIGHT else UP_FORM
    places = [(label, ratio, picture.place_of(label)) for label, ratio in value.terms]
    across = Row({label: ratio * x for label, ratio, (x, _) in places})
    upward = Row({label: ratio * y for label, ratio, (_, y) in places})
    return across, upward, Row(dict(value.terms))


def form_at(form, scene):
    """A form at a scene: three Ratios."""
    numbers = ratios_of(form, 3)
    if numbers is None and not (are_rows(form) and len(form) == 3):
        raise BadRow("form")
    if not isinstance(scene, Scene):
        raise BadScene("scene")
    if numbers is not None:
        return numbers
    for label in sorted({label: True for row in form for label in row.labels}):
        if label not in scene:
            raise NoLabel(label)
    depths = dict(scene.depths)
    return tuple([value_at(row, depths) for row in form])


def in_space(numbers, eye):
    """Where a form at a scene lies, seen from an eye: to the right, up and ahead."""
    d1, d2, d3 = triple_of(numbers, "numbers")
    check_eye(eye)
    return d1 - eye.a * d3, d2 - eye.b * d3, d3


def product(one, other, eye):
    """The product of two forms at a scene, at an eye."""
    d1, d2, d3 = triple_of(one, "one")
    e1, e2, e3 = triple_of(other, "other")
    check_eye(eye)
    level = d1 * e1 + d2 * e2
    return level - eye.a * (d1 * e3 + d3 * e1) - eye.b * (d2 * e3 + d3 * e2) + eye.s * d3 * e3


def place_at(numbers):
    """Where a mark with this form at a scene is drawn; None if it is not before the eye."""
    d1, d2, d3 = triple_of(numbers, "numbers")
    if d3.sign <= 0:
        return None
    return d1.over(d3), d2.over(d3)


def placed(picture, scene, label, eye):
    """Where a point of the picture lies in space at a scene, seen from an eye."""
    check_picture(picture)
    if not isinstance(scene, Scene):
        raise BadScene("scene")
    x, y = picture.place_of(label)
    check_eye(eye)
    depth = scene.depth_of(label)
    return in_space((depth * x, depth * y, depth), eye)
