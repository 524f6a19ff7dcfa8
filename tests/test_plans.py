"""Plans, metrics, areas: beside sums in space."""

import random
import unittest
from fractions import Fraction

from alleyes.books import Book
from alleyes.check_words import shows_metric, shows_plan
from alleyes.errors import BadNumber, BadStanding, BadStep, Impossible, NoLabel, NoPicture, NotJoined, Nothing, Twice, Unsettled
from alleyes.facts import Foot, Lengths, Null, Upright
from alleyes.papers import Paper
from alleyes.pictures import Picture
from alleyes.plans import Metric, Plan, area_ratio, metric, plan_of
from alleyes.ratios import Ratio
from alleyes.standing import stand
from alleyes.steps import Mark, Step
from tests.painting import box_nulls, cross, cube_world, dot, minus, plus, true_facts, true_ties
from tests.support import NO_LABELS, NO_LISTS, NO_RATIOS, Checks, Odd, value_of
from tests.test_standing import AB, AD, AGAIN, CORNER, DC, EDGES, IMPOSSIBLE, JOINED, ONE, RIGHT, TILE, UP, between
from tests.test_words import FOOTED, LOOSE, PLAIN

SQUARE = stand(Book([ONE], [Null(TILE), Upright(AB, AD), Lengths(AB, AD)]))
CORNERS = ["one.a", "one.b", "one.c"]


def in_plane(vector, one, other):
    """The two numbers with which two vectors make a third one, None if they do not."""
    normal = cross(one, other)
    if dot(normal, vector) != 0:
        return None
    size = dot(normal, normal)
    return dot(cross(vector, other), normal) / size, dot(cross(one, vector), normal) / size


def area(points):
    total = sum((m * other_n - other_m * n for (m, n), (other_m, other_n) in zip(points, points[1:] + points[:1])), Fraction(0))
    return abs(total) / 2


class PlansTest(unittest.TestCase, Checks):
    def test_example(self):
        self.assertEqual((plan_of(PLAIN, "one.a", AB, AD, ["one.c", "one.b"]).spots, area_ratio(PLAIN, CORNERS, ONE.labels, "one.a", AB, AD)),
                         ((("one.c", 1, 1), ("one.b", 1, 0)), Ratio(1, 2)))
        square = metric(SQUARE, AB, AD)
        self.assertEqual([metric(PLAIN, AB, AD), square == Metric(1, 0), square.square_of(1, 1)], [None, True, 2])

    def test_papers(self):
        plan, told = Plan(spots=[["one.a", 1, 2]]), Metric(square=3, mixed=Ratio(1, 2))
        self.assertEqual([plan.word, plan.spots, told.word, told.square, told.mixed, bool(plan), bool(told)],
                         ["plan", (("one.a", 1, 2),), "metric", 3, Ratio(1, 2), True, True])
        self.assertTrue(isinstance(plan, Paper) and isinstance(told, Paper))
        self.assertEqual([told.square_of(m=2, n=0), told.square_of(0, 3), told.square_of(Ratio(1, 2), -1)], [12, 9, Ratio(5, 4)])
        self.all_ratios([told.square_of(0, 0), metric(SQUARE, AB, AD).square, plan_of(PLAIN, "one.a", AB, AD, ["one.b"]).spots[0][1]])
        for value in NO_RATIOS:
            self.bad(BadNumber, "m", told.square_of, value, None)
            self.bad(BadNumber, "n", told.square_of, 1, value)

    def test_plans(self):
        self.assertEqual(plan_of(standing=PLAIN, base="one.d", one=AD, other=AB, labels=("one.a", "one.d", "one.c")).spots,
                         (("one.a", -1, 0), ("one.d", 0, 0), ("one.c", 0, 1)))
        self.assertEqual(plan_of(PLAIN, "one.a", AD, AB, []).spots, ())
        loose = Picture("one", {**{label[-1]: ONE.place_of(label) for label in ONE.labels}, "e": (1, 5)})
        standing = stand(Book([loose], [Null(TILE)]))
        self.assertEqual([label for label, _, _ in plan_of(standing, "one.a", AB, AD, ["one.e", "one.c"]).spots], ["one.c"])
        # A point drawn where the way of one step vanishes: only the number of that step hangs on its depth.
        vanished = Picture("one", {**{label[-1]: ONE.place_of(label) for label in ONE.labels}, "e": (3, 3)})
        for steps in ((AB, AD), (AD, AB)):
            self.assertEqual(plan_of(stand(Book([vanished], [Null(TILE)])), "one.a", *steps, ["one.e"]).spots, ())

    def test_painted(self):
        """Sure labels lie where the told sum leads in space; areas and metrics are those of space."""
        source, seen = random.Random(5), {}
        for _ in range(24):
            names = source.choice([("one",), ("one", "two")])
            world = cube_world(source, names, straight=source.random() < 0.5)
            nulls = [fact for name in names for fact in box_nulls(world, name) if source.random() < 0.9]
            facts = [*nulls, *true_facts(source, world, source.randint(0, 5)), *true_ties(world)]
            standing = stand(Book(world.pictures(), facts))
            labels = [label for label in standing.book.labels if label[:3] in standing.heaps[0].names]
            one, other = [between(*pair, source.choice(standing.heaps[0].names)) for pair in (source.sample(["ab", "ac", "ae", "ad", "cg"], 2))]
            base = source.choice(labels)
            try:
                plan = plan_of(standing, base, one, other, labels)
            except Unsettled:
                continue
            self.assertIs(shows_plan(standing, base, one, other, labels, plan), True)
            vectors = world.led(one), world.led(other)
            flat = {}
            for label, m, n in plan.spots:
                flat[label] = (value_of(m), value_of(n))
                self.assertEqual(in_plane(minus(world.spot(label), world.spot(base)), *vectors), flat[label])
            self.assertEqual([label for label, _, _ in plan.spots], [label for label in labels if label in flat])
            seen[len(flat) > 3] = True
            if len(flat) >= 4:
                chosen, rest = source.sample(sorted(flat), 3), source.sample(sorted(flat), 4)
                areas = [area([flat[label] for label in part]) for part in (chosen, rest)]
                if areas[1]:
                    self.assertEqual(value_of(area_ratio(standing, chosen, rest, base, one, other)), areas[0] / areas[1])
                else:
                    self.raised(Nothing, {}, area_ratio, standing, chosen, rest, base, one, other)
            self.check_metric(standing, world, one, other, seen)
        self.assertTrue(seen[True] and seen["told"] and seen["open"])

    def check_metric(self, standing, world, one, other, seen):
        try:
            found = metric(standing, one, other)
        except Unsettled:
            return
        seen["open" if found is None else "told"] = True
        if found is not None:
            v, w = world.led(one), world.led(other)
            self.assertEqual([value_of(found.square), value_of(found.mixed)], [dot(v, v) / dot(w, w), dot(v, w) / dot(w, w)])
            both = plus(v, w)
            self.assertEqual(value_of(found.square_of(1, 1)), dot(both, both) / dot(w, w))
            self.assertIs(shows_metric(standing, one, other, found), True)

    def test_metrics(self):
        self.assertEqual(metric(standing=SQUARE, one=AD, other=AB), Metric(1, 0))
        self.assertEqual(metric(SQUARE, AD * 2, AB), Metric(4, 0))
        self.assertIsNone(metric(FOOTED, AB, AD))
        half = stand(Book([ONE], [Null(TILE), Lengths(AB, AD, 4)]))
        self.assertIsNone(metric(half, AB, AD))
        self.assertEqual(metric(stand(Book([ONE], [Null(TILE), Foot("one", 3, 3), Lengths(AB, AD)])), AB, AD), Metric(1, 0))

    def test_two_pictures(self):
        there = [Step.between("two.o", "two.a"), Step.between("two.o", "two.b")]
        found = plan_of(JOINED, "two.o", *there, ["one.d", "two.d", "one.e", "one.a"])
        self.assertEqual(found.spots, (("one.d", 1, 1), ("two.d", 1, 1), ("one.a", 1, 0)))

    def test_order_of_errors(self):
        two = stand(Book([CORNER, AGAIN], EDGES))
        lost, away = Step.between("one.z", "one.y"), Step.up_of("six")
        for value in (None, PLAIN.book, Odd()):
            self.bad(BadStanding, "standing", plan_of, value, None, None, None, None)
            self.bad(BadStanding, "standing", metric, value, None, None)
            self.bad(BadStanding, "standing", area_ratio, value, None, None, None, None, None)
        three = ["one.a", "one.b", "one.c"]
        for standing in (two, *IMPOSSIBLE.values()):
            for value in (*NO_LABELS, "one.z", "six.a"):
                self.raised(NoLabel, {"name": value}, plan_of, standing, value, None, None, None)
                self.raised(NoLabel, {"name": value}, plan_of, standing, "one.a", lost, away, ["one.a", "one.a", value])
                self.raised(NoLabel, {"name": value}, area_ratio, standing, ["one.a", "one.a", value], None, None, None, None)
                self.raised(NoLabel, {"name": value}, area_ratio, standing, three, ["one.a", "one.a", value], None, None, None)
                self.raised(NoLabel, {"name": value}, area_ratio, standing, three, three, value, None, None)
            for value in NO_LISTS:
                self.raised(NoLabel, {"name": value}, plan_of, standing, "one.a", lost, away, value)
            for value in (*NO_LISTS, [], ("one.a", "one.b"), [3, 4]):
                self.raised(NoLabel, {"name": value}, area_ratio, standing, value, None, None, None, None)
                self.raised(NoLabel, {"name": value}, area_ratio, standing, three, value, None, None, None)
            for value in (None, "right one", Mark.of_point("one.a"), Odd()):
                self.bad(BadStep, "one", plan_of, standing, "one.a", value, None, None)
                self.bad(BadStep, "other", plan_of, standing, "one.a", lost, value, None)
                self.bad(BadStep, "one", metric, standing, value, None)
                self.bad(BadStep, "other", metric, standing, lost, value)
                self.bad(BadStep, "one", area_ratio, standing, three, three, "one.a", value, None)
                self.bad(BadStep, "other", area_ratio, standing, three, three, "one.a", lost, value)
            self.raised(Twice, {"name": "one.b"}, plan_of, standing, "one.a", lost, away, ["one.a", "one.b", "one.b", "one.a"])
            self.raised(Twice, {"name": "one.a"}, area_ratio, standing, ["one.a", "one.b", "one.a"], None, None, None, None)
            self.raised(Twice, {"name": "one.a"}, area_ratio, standing, three, ["one.a", "one.b", "one.a"], None, None, None)
            for steps, error, name in (((lost, away), NoLabel, "one.y"), ((away, lost), NoPicture, "six"), ((UP, away), NoPicture, "six")):
                self.raised(error, {"name": name}, plan_of, standing, "one.a", *steps, [])
                self.raised(error, {"name": name}, metric, standing, *steps)
                self.raised(error, {"name": name}, area_ratio, standing, three, three, "one.a", *steps)
        for word, standing in IMPOSSIBLE.items():
            self.raised(Impossible, {"word": word}, plan_of, standing, "one.a", UP, UP, [])
            self.raised(Impossible, {"word": word}, metric, standing, UP, UP)
            self.raised(Impossible, {"word": word}, area_ratio, standing, three, three, "one.a", UP, UP)
        here, there = between("o", "a"), between("o", "a", "two")
        fields = {"one": "one", "other": "two"}
        self.raised(NotJoined, fields, plan_of, two, "one.a", UP, there, ["one.a"])
        self.raised(NotJoined, fields, plan_of, two, "one.a", here, between("o", "b"), ["one.b", "two.b"])
        self.raised(NotJoined, {"one": "two", "other": "one"}, plan_of, two, "two.a", UP, there, ["one.a"])
        self.raised(NotJoined, {"one": "two", "other": "one"}, metric, two, there, UP)
        self.raised(NotJoined, fields, area_ratio, two, three, ["one.a", "two.b", "one.b"], "two.a", there, there)
        self.raised(NotJoined, {"one": "two", "other": "one"}, area_ratio, two, ["two.a", "two.b", "two.c"], ["two.a", "two.b", "two.c"], "two.a",
                    there, UP)

    def test_unsettled(self):
        for call, before, behind in ((plan_of, ["one.a"], [["one.c"]]), (metric, [], []), (area_ratio, [CORNERS, CORNERS, "one.a"], [])):
            for standing, one, other, part in ((LOOSE, AB, AD, "one"), (PLAIN, RIGHT, UP, "one"), (PLAIN, AB, UP, "other"), (PLAIN, UP, AB, "one"),
                                               (PLAIN, AB, AB, "other"), (PLAIN, AB, DC, "other"), (PLAIN, AB, Step.between("one.c", "one.d"), "other")):
                self.bad(Unsettled, part, call, standing, *before, one, other, *behind)
        place = Picture("one", {"a": (0, 0), "b": (6, 0), "c": (4, 2), "d": (2, 2), "e": (1, 5)})
        standing = stand(Book([place], [Null(TILE)]))
        self.bad(Unsettled, "corners", area_ratio, standing, ["one.a", "one.b", "one.e"], ["one.a", "one.b", "one.e"], "one.a", AB, AD)
        self.bad(Unsettled, "others", area_ratio, standing, CORNERS, ["one.a", "one.b", "one.e"], "one.a", AB, AD)
        self.bad(Unsettled, "corners", area_ratio, standing, CORNERS, CORNERS, "one.e", AB, AD)
        row = stand(Book([Picture("one", {"a": (0, 0), "b": (6, 0), "c": (4, 2), "d": (2, 2), "e": (3, 0)})],
                         [Null(TILE), Null(Step({"one.a": 1, "one.e": -2, "one.b": 1}))]))
        self.raised(Nothing, {}, area_ratio, row, CORNERS, ["one.a", "one.b", "one.e"], "one.a", AB, AD)
        self.assertEqual(area_ratio(row, ["one.a", "one.b", "one.e"], CORNERS, "one.a", AB, AD), 0)
        self.bad(Unsettled, "other", metric, self.apart(), between("a", "b"), between("e", "g"))

    def apart(self):
        """Two tiles of one picture that nothing joins: their steps are settled, and not together."""
        picture = Picture("one", {"a": (0, 0), "b": (6, 0), "c": (4, 2), "d": (2, 2), "e": (1, 1), "f": (7, 1), "g": (3, 3), "h": (5, 3)})
        tiles = [Null(TILE), Null(Step({"one.e": 1, "one.f": -1, "one.h": 1, "one.g": -1}))]
        return stand(Book([picture], tiles))


if __name__ == "__main__":
    unittest.main()
