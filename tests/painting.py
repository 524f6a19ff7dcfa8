"""Scenes in space, painted by sums of their own in Fractions: points, views, pictures, and facts that are true of them."""

from fractions import Fraction

from alleyes.facts import Along, Far, Foot, InPlane, Lengths, Null, SameWay, Tie, Upright
from alleyes.pictures import Picture
from alleyes.ratios import Ratio
from alleyes.steps import Step
from tests.support import value_of

LETTERS = "abcdefghijklmnopqrstuvwxyz"


def ratio_of(number):
    number = Fraction(number)
    return Ratio(number.numerator, number.denominator)


def dot(one, other):
    return sum((Fraction(a) * b for a, b in zip(one, other)), Fraction(0))


def cross(one, other):
    return (one[1] * other[2] - one[2] * other[1], one[2] * other[0] - one[0] * other[2],
            one[0] * other[1] - one[1] * other[0])


def det(one, two, three):
    return dot(one, cross(two, three))


def minus(one, other):
    return tuple(Fraction(a) - b for a, b in zip(one, other))


def times(vector, number):
    return tuple(part * number for part in vector)


def plus(one, other):
    return tuple(Fraction(a) + b for a, b in zip(one, other))


def direction(vector):
    """The integers without a common divisor that a vector is a multiple above 0 of."""
    from math import gcd, lcm
    below = lcm(*[Fraction(part).denominator for part in vector])
    whole = [int(part * below) for part in vector]
    shared = gcd(*whole)
    return tuple(part // shared for part in whole)


def is_positive_multiple(one, other):
    return cross(one, other) == (0, 0, 0) and dot(one, other) > 0


class Look:
    """A view: its place, three axes, foot, distance."""

    def __init__(self, place, axes, foot, distance):
        self.place, self.axes, self.foot, self.distance = place, axes, foot, Fraction(distance)

    def numbers(self, spot):
        """How many times right, up and ahead a vector in space is."""
        return tuple(dot(spot, axis) / dot(axis, axis) for axis in self.axes)

    def depth(self, spot):
        return self.numbers(minus(spot, self.place))[2] / self.distance

    def paint(self, spot):
        r, u, h = self.numbers(minus(spot, self.place))
        return self.foot[0] + self.distance * r / h, self.foot[1] + self.distance * u / h

    def form(self, vector):
        """The form, at the painted depths, of a step that is this vector in space."""
        r, u, h = self.numbers(vector)
        d3 = h / self.distance
        return r + self.foot[0] * d3, u + self.foot[1] * d3, d3

    def eye(self):
        a, b = self.foot
        return Fraction(a), Fraction(b), Fraction(a) ** 2 + Fraction(b) ** 2 + self.distance ** 2


class World:
    """Spots in space by names of points, and looks by names of pictures, each of which paints some points."""

    def __init__(self, spots, looks, seen):
        self.spots, self.looks, self.seen = spots, looks, seen

    def pictures(self):
        return [Picture(name, {point: tuple(ratio_of(number) for number in look.paint(self.spots[point]))
                               for point in self.seen[name]}) for name, look in self.looks.items()]

    def depths(self, name):
        return {f"{name}.{point}": self.looks[name].depth(self.spots[point]) for point in self.seen[name]}

    def spot(self, label):
        return self.spots[label.partition(".")[2]]

    def led(self, value):
        """The vector by which a step leads, the place in space of a mark."""
        if isinstance(value, Step) and value.side is not None:
            return self.looks[value.picture_name].axes[0 if value.side == "right" else 1]
        total = (Fraction(0),) * 3
        for label, ratio in value.terms:
            total = plus(total, times(self.spot(label), value_of(ratio)))
        return total

    def is_true(self, fact):
        kind = type(fact).__name__
        if kind == "Tie":
            return self.spot(fact.one) == self.spot(fact.other)
        if kind in ("Foot", "Far"):
            a, b, s = self.looks[fact.name].eye()
            return (value_of(fact.a), value_of(fact.b)) == (a, b) if kind == "Foot" else value_of(fact.s) == s
        led = [self.led(step) for step in fact.steps]
        if kind == "Null":
            return not any(led[0])
        if kind == "Along":
            return not any(cross(*led))
        if kind == "SameWay":
            return any(led[0]) and any(led[1]) and is_positive_multiple(*led)
        if kind == "InPlane":
            return any(cross(led[1], led[2])) and det(*led) == 0
        if kind == "Upright":
            return any(led[0]) and any(led[1]) and dot(*led) == 0
        if not any(led[0]) or not any(led[1]):
            return False
        sides = [step.side for step in fact.steps]
        if sides != [None, None]:
            return None not in sides and fact.one.picture_name == fact.other.picture_name and fact.p == fact.q
        return value_of(fact.q) * dot(led[0], led[0]) == value_of(fact.p) * dot(led[1], led[1])

    def visible(self):
        return all(look.depth(self.spots[point]) > 0 for name, look in self.looks.items() for point in self.seen[name])

    def is_fit(self):
        """Whether all points are before the looks, and no two of a picture at one place."""
        if not self.visible():
            return False
        for name, look in self.looks.items():
            places = [look.paint(self.spots[point]) for point in self.seen[name]]
            if len(set(places)) < len(places):
                return False
        return True


def axes_of(source):
    """Three axes at right angles, of equal lengths, turned by a small quaternion."""
    while True:
        a, b, c, d = [source.randint(-2, 2) for _ in range(4)]
        a = a or 3
        if a:
            break
    return ((a * a + b * b - c * c - d * d, 2 * (b * c - a * d), 2 * (b * d + a * c)),
            (2 * (b * c + a * d), a * a - b * b + c * c - d * d, 2 * (c * d - a * b)),
            (2 * (b * d - a * c), 2 * (c * d + a * b), a * a - b * b - c * c + d * d))


def random_look(source, centre, straight=False):
    axes = ((1, 0, 0), (0, 1, 0), (0, 0, 1)) if straight else axes_of(source)
    ahead = axes[2]
    size = dot(ahead, ahead)
    back = source.randint(5, 9)
    # So far behind the centre, in units of the axis's own length, that all spots of a small lattice are before it.
    place = minus(centre, times(ahead, Fraction(back, 1) / isqrt_up(size)))
    shift = times(axes[0], Fraction(source.randint(-1, 1), isqrt_up(size)))
    foot = (Fraction(source.randint(-3, 3), source.choice([1, 2])), Fraction(source.randint(-3, 3)))
    return Look(plus(place, shift), axes, foot, Fraction(source.randint(1, 4), source.choice([1, 1, 2])))


def isqrt_up(number):
    root = 1
    while root * root < number:
        root += 1
    return root


def random_world(source, points=6, names=("one",), shared=None, straight=False):
    """Spots of a small lattice, seen by looks of these names, which see all points, or so many chosen ones."""
    while True:
        spots = {}
        while len(spots) < points:
            spot = tuple(Fraction(source.randint(0, 2)) for _ in range(3))
            if spot not in spots.values():
                spots[LETTERS[len(spots)]] = spot
        looks = {name: random_look(source, (1, 1, 1), straight) for name in names}
        seen = {name: sorted(source.sample(list(spots), shared or points)) for name in names}
        world = World(spots, looks, seen)
        if world.is_fit():
            return world


def cube_world(source, names=("one",), straight=False):
    """The eight corners of a box, seen by looks of these names."""
    while True:
        sides = [source.randint(1, 3) for _ in range(3)]
        spots = {LETTERS[number]: tuple(Fraction(side if number >> bit & 1 else 0) for bit, side in enumerate(sides))
                 for number in range(8)}
        looks = {name: random_look(source, tuple(Fraction(side, 2) for side in sides), straight) for name in names}
        world = World(spots, looks, {name: list(spots) for name in names})
        if world.is_fit():
            return world


def random_step(source, world, name):
    one, other = source.sample(world.seen[name], 2)
    return Step.between(f"{name}.{one}", f"{name}.{other}")


def any_step(source, world):
    name = source.choice(list(world.looks))
    if source.random() < 0.12:
        return source.choice([Step.right_of, Step.up_of])(name)
    return random_step(source, world, name)


def random_fact(source, world):
    """A fact that may be true."""
    kind = source.choice(["null", "along", "sameway", "inplane", "upright", "lengths", "foot", "far"])
    name = source.choice(list(world.looks))
    if kind == "foot":
        a, b, _ = world.looks[name].eye()
        return Foot(name, ratio_of(a), ratio_of(b))
    if kind == "far":
        return Far(name, ratio_of(world.looks[name].eye()[2]))
    step = random_step(source, world, name)
    if kind == "null":
        if len(world.seen[name]) < 4:
            return Null(step)
        p, q, r, s = [f"{name}.{point}" for point in source.sample(world.seen[name], 4)]
        return Null(Step({p: 1, q: -1, r: 1, s: -1}))
    one, other = any_step(source, world), any_step(source, world)
    if kind == "inplane":
        return InPlane(step, one, other)
    if kind == "upright":
        return Upright(one, other)
    if kind == "lengths":
        p, q = dot(world.led(one), world.led(one)), dot(world.led(other), world.led(other))
        return Lengths(one, other, *([ratio_of(p), ratio_of(q)] if one.side is None else [1, 1]))
    return (Along if kind == "along" else SameWay)(step, other)


def true_facts(source, world, many, tries=400):
    """At most so many facts that are true."""
    found = []
    for _ in range(tries):
        if len(found) < many:
            fact = random_fact(source, world)
            if world.is_true(fact) and fact not in found:
                found.append(fact)
    return found


def true_ties(world):
    """The ties of all points that two pictures, which follow one another, both show."""
    names = list(world.looks)
    return [Tie(f"{one}.{point}", f"{other}.{point}") for one, other in zip(names, names[1:])
            for point in world.seen[one] if point in world.seen[other]]


def box_nulls(world, name):
    """The facts that the corners of a box, in the order of their bits, tell in a picture."""
    def corner(number):
        return f"{name}.{LETTERS[number]}"
    sums = {3: (1, 2, 0), 5: (1, 4, 0), 6: (2, 4, 0), 7: (3, 4, 0)}
    return [Null(Step({corner(end): 1, corner(one): -1, corner(other): -1, corner(start): 1}))
            for end, (one, other, start) in sums.items()]


def holds(world, saying):
    """Whether a saying holds in the world, at the painted depths and eyes."""
    kind = type(saying).__name__
    if kind == "Deeper":
        look = world.looks[saying.one.partition(".")[0]]
        return look.depth(world.spot(saying.one)) > look.depth(world.spot(saying.other))
    if kind == "Before":
        return world.looks[saying.mark.picture_name].depth(world.led(saying.mark)) > 0
    if kind == "OnSide":
        sides = [det(world.led(saying.one), world.led(saying.other), minus(world.spot(label), world.spot(saying.base)))
                 for label in (saying.label, saying.mate)]
        return sides[0] * sides[1] > 0
    if kind == "AtLeast":
        parts = [det(world.led(saying.side), world.led(saying.mate), minus(world.spot(label), world.spot(saying.one)))
                 for label in (saying.label, saying.other)]
        return parts[0] / parts[1] >= value_of(saying.ratio)
    led = [world.led(step) for step in saying.steps]
    if kind in ("Sharp", "Blunt"):
        return dot(*led) > 0 if kind == "Sharp" else dot(*led) < 0
    if kind in ("Longer", "Shorter"):
        one, other = value_of(saying.q) * dot(led[0], led[0]), value_of(saying.p) * dot(led[1], led[1])
        return one > other if kind == "Longer" else one < other
    if kind == "Upright":
        return dot(*led) == 0
    if kind == "Lengths":
        return value_of(saying.q) * dot(led[0], led[0]) == value_of(saying.p) * dot(led[1], led[1])
    return world.is_true(saying)
