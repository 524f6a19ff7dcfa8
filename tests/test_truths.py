"""Truths: by what steps lead, and which facts are true, beside own sums in integers."""

import random
import unittest

from alleyes.errors import BadFact, BadSolid, BadStep, BadView, NoLabel, NoPicture
from alleyes.facts import Along, Far, Foot, InPlane, Lengths, Null, SameWay, Tie, Upright
from alleyes.ratios import Ratio
from alleyes.sayings import Deeper
from alleyes.solids import Solid
from alleyes.steps import Mark, Step
from alleyes.truths import is_true, led_by, true_facts
from tests.chosen import false_fact
from tests.painting import any_step, cross, cube_world, dot, random_fact, random_world
from tests.support import Checks, Odd, value_of
from tests.test_painting import solid_of, views_of
from tests.test_solids import SLAB
from tests.test_standing import between
from tests.test_views import LEVEL, SLANTED

VIEWS = {"one": LEVEL, "two": SLANTED}
RIM, HIND, INWARD = between("a", "b"), between("c", "d"), between("a", "d")
PLACES = {"o": (0, 0, 0), "p": (2, 0, 0), "q": (0, 0, 0), "r": (0, 4, 0), "s": (-1, 0, 0), "t": (2, 4, 0), "u": (0, 0, 3), "v": (1, 1, 1)}
SPREAD = Solid(PLACES)


def world_steps(source, world, many):
    return [any_step(source, world) for _ in range(many)]


class TruthsTest(unittest.TestCase, Checks):
    def true(self, fact):
        return is_true(SPREAD, VIEWS, fact)

    def test_example(self):
        held = [Along(RIM, HIND), Lengths(RIM, HIND), Upright(RIM, INWARD), Lengths(RIM, INWARD), Upright(HIND, INWARD),
                Lengths(HIND, INWARD)]
        self.assertEqual((true_facts(SLAB, {"one": LEVEL}, [RIM, HIND, INWARD]) == held,
                          is_true(SLAB, {"one": LEVEL}, SameWay(RIM, HIND))), (True, False))

    def test_led_by(self):
        self.assertEqual(led_by(solid=SLAB, views=VIEWS, step=INWARD), (0, 0, 6))
        self.assertEqual([led_by(SLAB, VIEWS, Step.right_of("two")), led_by(SLAB, VIEWS, Step.up_of("two")),
                          led_by(SLAB, VIEWS, Step.up_of("one"))],
                         [(2, 2, 1), (-2, 1, 2), (0, 1, 0)])
        self.assertEqual(led_by(SPREAD, VIEWS, between("o", "q", "two")), (0, 0, 0))
        self.assertEqual(led_by(SPREAD, VIEWS, Step({"one.p": Ratio(1, 2), "one.r": Ratio(3, 4), "one.o": Ratio(-5, 4)})), (1, 3, 0))
        source = random.Random(1)
        for _ in range(20):
            world = random_world(source, 6, ("one", "two"))
            for step in world_steps(source, world, 6):
                found = led_by(solid_of(world), views_of(world), step)
                self.assertEqual(tuple(value_of(part) for part in found), tuple(world.led(step)))
                self.all_ratios(found)

    def test_facts(self):
        """Each kind beside own sums, true ones and others."""
        source, seen = random.Random(2), {}
        for number in range(40):
            world = cube_world(source, ("one", "two")) if number & 1 else random_world(source, 6, ("one", "two"))
            solid, views = solid_of(world), views_of(world)
            for _ in range(25):
                fact = false_fact(source, world) if source.random() < 0.3 else random_fact(source, world)
                if source.random() < 0.1:
                    fact = Tie(*[f"{name}.{source.choice(world.seen[name][:2])}" for name in ("one", "two")])
                if source.random() < 0.1:
                    fact = Along(between("a", "b"), between("b", "a", "two"))
                wanted = world.is_true(fact)
                seen[type(fact), wanted] = True
                self.assertIs(is_true(solid=solid, views=views, fact=fact), wanted, str(fact))
        for kind in (Null, Along, SameWay, InPlane, Upright, Lengths, Foot, Far, Tie):
            self.assertTrue((kind, True) in seen and (kind, False) in seen, kind)

    def test_steps_that_lead_nowhere(self):
        nowhere, right, up = between("o", "q"), Step.right_of("one"), Step.up_of("one")
        across, aside = between("o", "p"), between("o", "r")
        for fact, wanted in ((Null(nowhere), True), (Null(across), False), (Along(nowhere, across), True),
                             (Along(nowhere, right), True), (Along(nowhere, nowhere), True),
                             (SameWay(nowhere, nowhere), False), (SameWay(nowhere, across), False), (SameWay(across, nowhere), False),
                             (InPlane(nowhere, across, aside), True), (InPlane(across, nowhere, aside), False),
                             (InPlane(across, aside, nowhere), False),
                             (InPlane(across, aside, across), True), (InPlane(across, across, across), False),
                             (InPlane(nowhere, right, up), True),
                             (Upright(nowhere, across), False), (Upright(across, nowhere), False), (Upright(nowhere, right), False),
                             (Upright(nowhere, nowhere), False),
                             (Lengths(nowhere, nowhere), False), (Lengths(nowhere, across), False), (Lengths(across, nowhere), False),
                             (Lengths(across, across), True)):
            self.assertIs(self.true(fact), wanted, str(fact))

    def test_ways(self):
        across, back, long = between("o", "p"), between("o", "s"), between("s", "p")
        for fact, wanted in ((SameWay(across, long), True), (SameWay(across, back), False), (Along(across, back), True),
                             (SameWay(back, back), True),
                             (SameWay(across, Step.right_of("one")), True), (SameWay(Step.right_of("one"), back), False),
                             (SameWay(across, Step.right_of("two")), False),
                             (Along(Step.up_of("one"), between("o", "r")), True), (Along(between("o", "v"), across), False),
                             (InPlane(between("o", "u"), across, between("o", "r")), False),
                             (InPlane(between("o", "t"), across, between("o", "r")), True),
                             (InPlane(between("p", "r"), Step.right_of("one"), Step.up_of("one")), True),
                             (InPlane(between("o", "v"), Step.right_of("two"), Step.up_of("two")), False)):
            self.assertIs(self.true(fact), wanted, str(fact))

    def test_right_and_up(self):
        """Lengths of right and up hold of one picture alone, and tell p and q alike; right angles hold as in space."""
        right, up = Step.right_of("one"), Step.up_of("one")
        there, high = Step.right_of("two"), Step.up_of("two")
        unit = between("s", "o")
        for fact, wanted in ((Lengths(right, up), True), (Lengths(up, right, 3, 3), True), (Lengths(right, right), True),
                             (Lengths(right, up, 2, 1), False),
                             (Lengths(right, there), False), (Lengths(there, high), True), (Lengths(there, up, 9, 1), False),
                             (Lengths(right, unit), False), (Lengths(unit, up), False),
                             (Lengths(unit, unit), True), (Upright(right, up), True), (Upright(there, high), True),
                             (Upright(right, there), False), (Upright(unit, up), True),
                             (Upright(unit, right), False), (Upright(Step.up_of("one"), between("o", "u")), True),
                             (Lengths(between("o", "p"), between("o", "r"), 1, 4), True),
                             (Lengths(between("o", "p"), between("o", "r"), 4, 1), False), (Lengths(between("o", "v"), unit, 3, 1), True)):
            self.assertIs(self.true(fact), wanted, str(fact))

    def test_eyes_and_ties(self):
        for fact, wanted in ((Foot("one", 3, 3), True), (Foot("one", 3, 2), False), (Foot("one", 2, 3), False),
                             (Foot("two", Ratio(1, 2), -1), True), (Far("one", 27), True),
                             (Far("one", 26), False), (Far("two", Ratio(15, 2)), True), (Far("two", Ratio(25, 4)), False),
                             (Tie("one.o", "two.q"), True), (Tie("two.p", "one.p"), True),
                             (Tie("one.o", "two.p"), False)):
            self.assertIs(self.true(fact), wanted, str(fact))

    def test_true_facts(self):
        """All that is true of each two steps, as listed, in order; nothing of those that lead nowhere but Null."""
        source, seen = random.Random(3), {}
        for number in range(20):
            world = cube_world(source, ("one", "two"), straight=bool(number & 1))
            solid, views = solid_of(world), views_of(world)
            steps = world_steps(source, world, 5) + [Step.right_of("one"), Step.up_of("one"), Step.right_of("two")]
            steps += [Step({"one.a": 1, "one.b": -1, "one.c": -1, "one.d": 1}), between("a", "b"), between("g", "h", "two")]
            source.shuffle(steps)
            wanted = [Null(step) for step in steps if not any(world.led(step))]
            left = [step for step in steps if any(world.led(step))]
            for at, one in enumerate(left):
                for other in left[at + 1:]:
                    v, w = world.led(one), world.led(other)
                    if (one.terms or other.terms) and not any(cross(v, w)):
                        wanted.append(SameWay(one, other) if dot(v, w) > 0 else Along(one, other))
                    if dot(v, w) == 0:
                        wanted.append(Upright(one, other))
                    if (dot(v, v) == dot(w,
                                         w)) if one.terms and other.terms else (not one.terms and not other.terms and one.picture_name == other.picture_name):
                        wanted.append(Lengths(one, other))
            found = true_facts(solid=solid, views=views, steps=steps)
            self.assertIs(type(found), list)
            self.assertEqual(found, wanted)
            self.assertTrue(all(is_true(solid, views, fact) for fact in found))
            seen.update({type(fact): True for fact in found})
        self.assertEqual(len(seen), 5)
        self.assertEqual([true_facts(SLAB, VIEWS, []), true_facts(SLAB, VIEWS, (RIM,))], [[], []])
        self.assertEqual(true_facts(SLAB, VIEWS, [RIM, RIM]), [SameWay(RIM, RIM), Lengths(RIM, RIM)])

    def test_order_of_errors(self):
        lost, away = Step.between("one.x", "one.w"), Step.up_of("six")
        far_off = Step.between("six.x", "six.a")
        calls = ((led_by, "step"), (is_true, "fact"), (true_facts, "steps"))
        for call, _ in calls:
            for value in (None, SLAB.corners, LEVEL, Odd()):
                self.bad(BadSolid, "solid", call, value, None, None)
            for value in (None, {}, [LEVEL], LEVEL, {"one": None}, {"one": LEVEL, "Two": LEVEL}, {"one": SLAB}, {1: LEVEL}, Odd()):
                self.bad(BadView, "views", call, SLAB, value, None)
        for value in (None, "right one", Null(RIM), Mark.of_point("one.a"), Odd()):
            self.bad(BadStep, "step", led_by, SLAB, VIEWS, value)
            self.bad(BadStep, "steps", true_facts, SLAB, VIEWS, [lost, value])
        for value in (None, RIM, {0: RIM}, "one", Odd()):
            self.bad(BadStep, "steps", true_facts, SLAB, VIEWS, value)
        for value in (None, RIM, Deeper("one.a", "one.b"), "far one | 1", Odd()):
            self.bad(BadFact, "fact", is_true, SLAB, VIEWS, value)
        for step, error, name in ((lost, NoLabel, "one.w"), (away, NoPicture, "six"), (far_off, NoPicture, "six"),
                                  (Step({"one.b": 1, "one.e": -1}), NoLabel, "one.e")):
            self.raised(error, {"name": name}, led_by, SLAB, VIEWS, step)
            self.raised(error, {"name": name}, true_facts, SLAB, VIEWS, [RIM, step, Step.up_of("five")])
            self.raised(error, {"name": name}, is_true, SLAB, VIEWS, Upright(step, Step.up_of("five")))
            self.raised(error, {"name": name}, is_true, SLAB, VIEWS, InPlane(RIM, Step.up_of("one"), step))
        for fact, error, name in ((Tie("one.x", "six.a"), NoLabel, "one.x"), (Tie("six.x", "one.x"), NoPicture, "six"),
                                  (Tie("one.a", "two.z"), NoLabel, "two.z"),
                                  (Foot("six", 1, 2), NoPicture, "six"), (Far("six", 1), NoPicture, "six")):
            self.raised(error, {"name": name}, is_true, SLAB, VIEWS, fact)


if __name__ == "__main__":
    unittest.main()
