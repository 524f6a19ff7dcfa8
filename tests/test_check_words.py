"""Checks of words, plans and metrics: bent parts are taken exactly if they are right, reckoned in Fractions."""

import random
import unittest

from alleyes.books import Book
from alleyes.check_words import shows_metric, shows_plan, shows_word
from alleyes.cones import Lies, Mixed, Some, Zero, signs_of, signs_of_rows
from alleyes.errors import BadSaying, BadStanding, BadStep, Impossible, NoLabel, NotJoined, Twice, Unsettled
from alleyes.facts import Along, InPlane, Lengths, Null, SameWay, Upright
from alleyes.pictures import Picture
from alleyes.plans import Metric, Plan, metric, plan_of
from alleyes.ratios import Ratio
from alleyes.sayings import AtLeast, Before, Blunt, Deeper, Longer, OnSide, Sharp, Shorter
from alleyes.standing import home_form, stand
from alleyes.steps import Mark, Step
from alleyes.words import Always, Both, Never, Waits, word_of
from tests.bending import parts_bent
from tests.painting import box_nulls, cube_world, true_facts, true_ties
from tests.right_words import right_word
from tests.support import Checks, Odd
from tests.test_check_standing import NO_PAPERS
from tests.test_plans import SQUARE
from tests.test_standing import AB, AD, AGAIN, CORNER, DC, EDGES, IMPOSSIBLE, JOINED, RIGHT, TILE, UP, between
from tests.test_words import A, B, C, D, FOOTED, LOOSE, PLAIN, random_saying

MIDDLE = Step({A: -1, B: Ratio(1, 2), C: Ratio(1, 2)})
FLAT = stand(Book([Picture("one", {"a": (1, 0), "b": (0, 0), "c": (4, 0)})], [Along(MIDDLE, RIGHT)]))
CASES = [(PLAIN, Null(TILE)), (LOOSE, Null(TILE)), (PLAIN, Along(AB, DC)), (LOOSE, Along(AB, DC)), (PLAIN, Along(AB, AD)), (PLAIN, SameWay(AB, DC)),
         (PLAIN, SameWay(AB, Step.between(C, D))), (LOOSE, SameWay(RIGHT, AB)), (FLAT, SameWay(MIDDLE, RIGHT)), (PLAIN, InPlane(TILE * 2 + AB, AB, AD)),
         (LOOSE, InPlane(AB, RIGHT, UP)), (PLAIN, InPlane(AD, AB, UP)), (PLAIN, Upright(AB, AD)), (FOOTED, Upright(AB, AD)), (FOOTED, Lengths(AB, AD)),
         (PLAIN, Deeper(C, A)), (LOOSE, Deeper(C, A)), (PLAIN, Deeper(A, B)), (PLAIN, Before(Mark({A: 2, D: -1}))), (PLAIN, OnSide(C, A, AB, UP, D)),
         (PLAIN, OnSide(A, A, AB, UP, D)), (PLAIN, AtLeast(C, A, D, 1, AB, UP)), (PLAIN, AtLeast(B, A, D, 1, AB, UP)), (FOOTED, Sharp(AB, AD)),
         (PLAIN, Blunt(AB, AD)), (FOOTED, Longer(AD, AB)), (FOOTED, Shorter(AD, AB)), (LOOSE, Upright(AB, AD)), (PLAIN, InPlane(AD, AB, DC)),
         (PLAIN, OnSide(C, A, AB, UP, B)), (JOINED, Lengths(between("o", "a"), between("o", "c", "two")))]


class CheckWordsTest(unittest.TestCase, Checks):
    def test_bent_words(self):
        source, taken = random.Random(1), 0
        for standing, saying in CASES:
            paper = word_of(standing, saying)
            self.assertIs(shows_word(standing, saying, paper), True, str(saying))
            for _ in range(120):
                other = type(paper)(*parts_bent(paper.parts, source))
                wanted = right_word(standing, saying, other)
                taken += wanted
                self.assertIs(shows_word(standing, saying, other), wanted, (str(saying), other.parts))
        self.assertGreater(taken, 3)

    def test_other_words(self):
        """Papers under another word, left out, put in, or turned about."""
        for standing, saying in CASES:
            paper = word_of(standing, saying)
            told = paper.parts[0]
            for kind in (Always, Both, Never, Waits):
                for parts in (told, told[:-1], told + told, told[::-1], (), [told], None, told[0], (Lies({A: 1}), *told), (Paperless(),)):
                    value = kind(parts)
                    self.assertIs(shows_word(standing, saying, value), right_word(standing, saying, value), (str(saying), kind, parts))
            for value in (*NO_PAPERS, told, paper.word, Mixed((), (), ()), Some((), ()), Zero(())):
                self.assertIs(shows_word(standing, saying, value), False)

    def test_words_of_others(self):
        """The word of one saying is that of another one only if its papers are right there, too."""
        papers = [word_of(standing, saying) for standing, saying in CASES]
        for standing, saying in CASES:
            for paper in papers:
                self.assertIs(shows_word(standing, saying, paper), right_word(standing, saying, paper))

    def test_two_scenes_of_a_same_way(self):
        """At the first scene a same way that is both holds, at the second one it does not."""
        saying = SameWay(MIDDLE, RIGHT)
        one, other = word_of(FLAT, saying).papers
        holding, failing = dict(one.depths), dict(other.depths)
        self.assertIs(shows_word(FLAT, saying, Both([Lies(holding), Lies(failing)])), True)
        for papers in ([one, one], [other, other], [other, one], [one], [one, other, other], [one, Lies({A: 1})]):
            self.assertIs(shows_word(FLAT, saying, Both(papers)), False)

    def test_papers_that_do_not_make_always(self):
        """A same way is always only by an AllZero and an Above, not by other papers that are right."""
        zeros, signs = signs_of_rows(FLAT.heaps[0].cone, self.rows(FLAT, MIDDLE)), signs_of(FLAT.heaps[0].cone, home_form(FLAT, MIDDLE)[0])
        self.assertEqual([zeros.word, signs.word], ["allzero", "mixed"])
        self.assertIs(shows_word(FLAT, SameWay(MIDDLE, RIGHT), Always([zeros, signs])), False)
        some, above = signs_of_rows(LOOSE.heaps[0].cone, self.rows(LOOSE, AB)), signs_of(LOOSE.heaps[0].cone, home_form(LOOSE, AB)[0])
        self.assertEqual([some.word, above.word], ["some", "above"])
        for saying in (SameWay(RIGHT, AB), SameWay(AB, RIGHT)):
            self.assertIs(shows_word(LOOSE, saying, Always([some, above])), False)
            self.assertEqual(word_of(LOOSE, saying).word, "both")

    def rows(self, standing, step):
        """The rows that are 0 where a step goes along the right."""
        _, upward, ahead = home_form(standing, step)
        return [upward - upward, ahead, -upward]

    def test_painted(self):
        source = random.Random(5)
        for _ in range(8):
            world = cube_world(source, ("one", "two"), straight=source.random() < 0.5)
            nulls = [fact for name in world.looks for fact in box_nulls(world, name) if source.random() < 0.9]
            standing = stand(Book(world.pictures(), [*nulls, *true_facts(source, world, 3), *true_ties(world)]))
            for _ in range(10):
                saying = random_saying(source, world)
                paper = word_of(standing, saying)
                for _ in range(4):
                    other = type(paper)(*parts_bent(paper.parts, source))
                    self.assertIs(shows_word(standing, saying, other), right_word(standing, saying, other), str(saying))

    def test_plans(self):
        labels = [C, B, D]
        plan = plan_of(PLAIN, A, AB, AD, labels)
        spots = plan.spots
        for value, wanted in ((Plan(spots), True), (Plan(spots[::-1]), True), (Plan(spots[:1]), True), (Plan(()), True), (Plan([(C, 1, 1)]), True),
                              (Plan([(C, Ratio(1), 1)]), True), (Plan(spots * 2), False), (Plan([(C, 1, 1), (C, 1, 1)]), False), (Plan([(C, 1, 2)]), False),
                              (Plan([(C, True, 1)]), False), (Plan([(C, 1, "1")]), False), (Plan([(A, 0, 0)]), False), (Plan([(C, 1)]), False), (Plan([C]), False),
                              (Plan(None), False), (Plan([(C, 1, 1, 1)]), False), (Plan([[[C], 1, 1]]), False), (Plan([("one.z", 1, 1)]), False),
                              (Plan([(None, 1, 1)]), False), (Plan([(C, 1.0, 1)]), False), (Metric(1, 0), False), (None, False), (spots, False), (Always(spots), False)):
            self.assertIs(shows_plan(PLAIN, A, AB, AD, labels, value), wanted, value)
        self.assertIs(shows_plan(PLAIN, A, AD, AB, tuple(labels), Plan([(B, 0, 1)])), True)
        self.assertIs(shows_plan(PLAIN, A, AD, AB, labels, Plan([(B, 1, 0)])), False)
        source = random.Random(7)
        for _ in range(300):
            other = Plan(*parts_bent(plan.parts, source))
            self.assertIs(shows_plan(PLAIN, A, AB, AD, labels, other), self.is_plan(other, {C: (1, 1), B: (1, 0), D: (0, 1)}), other.parts)
        loose = Picture("one", {"a": (0, 0), "b": (6, 0), "c": (4, 2), "d": (2, 2), "e": (1, 5)})
        standing = stand(Book([loose], [Null(TILE)]))
        self.assertIs(shows_plan(standing, A, AB, AD, [C, "one.e"], Plan([("one.e", 1, 1)])), False)

    def is_plan(self, value, wanted):
        from tests.bending import is_number
        spots = value.spots
        if not isinstance(spots, tuple) or not all(isinstance(spot, tuple) and len(spot) == 3 for spot in spots):
            return False
        if not all(isinstance(label, str) and label in wanted and is_number(m) and is_number(n) for label, m, n in spots):
            return False
        return len({label for label, _, _ in spots}) == len(spots) and all((m, n) == wanted[label] for label, m, n in spots)

    def test_metrics(self):
        for value, wanted in ((Metric(1, 0), True), (Metric(Ratio(1), Ratio(0)), True), (Metric(True, 0), False), (Metric(1, False), False), (Metric(1, 1), False),
                              (Metric(0, 1), False), (Metric("1", 0), False), (Metric(1.0, 0), False), (Plan((1, 0)), False), (None, False), ((1, 0), False)):
            self.assertIs(shows_metric(SQUARE, AB, AD, value), wanted)
        for value in (None, Metric(1, 0), metric(PLAIN, AB, AD), False):
            self.assertIs(shows_metric(PLAIN, AB, AD, value), False)

    def test_errors(self):
        two = stand(Book([CORNER, AGAIN], EDGES))
        lost = Step.between("one.z", "one.y")
        self.bad(BadStanding, "standing", shows_word, None, None, None)
        self.bad(BadStanding, "standing", shows_plan, Odd(), None, None, None, None, None)
        self.bad(BadStanding, "standing", shows_metric, None, None, None, None)
        self.bad(BadSaying, "saying", shows_word, two, AB, None)
        self.raised(NoLabel, {"name": "one.y"}, shows_word, two, Null(lost), None)
        self.raised(NoLabel, {"name": "one.z"}, shows_plan, two, "one.z", None, None, None, None)
        self.bad(BadStep, "other", shows_plan, two, A, AB, None, None, None)
        self.raised(NoLabel, {"name": 3}, shows_plan, two, A, lost, lost, 3, None)
        self.raised(Twice, {"name": A}, shows_plan, two, A, lost, lost, [A, A], None)
        self.raised(NotJoined, {"one": "one", "other": "two"}, shows_plan, two, A, UP, Step.up_of("two"), [], None)
        self.raised(NotJoined, {"one": "one", "other": "two"}, shows_metric, two, UP, Step.up_of("two"), None)
        self.bad(Unsettled, "one", shows_plan, PLAIN, A, UP, AB, [], None)
        self.bad(Unsettled, "other", shows_metric, PLAIN, AB, DC, None)
        for word, standing in IMPOSSIBLE.items():
            self.raised(Impossible, {"word": word}, shows_word, standing, Upright(AB, UP), None)
            self.raised(Impossible, {"word": word}, shows_plan, standing, A, AB, UP, [], None)
            self.raised(Impossible, {"word": word}, shows_metric, standing, AB, UP, None)


class Paperless:
    """A value that is no paper."""


if __name__ == "__main__":
    unittest.main()
