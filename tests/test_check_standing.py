"""Checks of Ways and of papers of what stands: bent parts are taken exactly if they are right, reckoned in Fractions."""

import random
import unittest

from alleyes.books import Book
from alleyes.bowl import NoEye, Sees
from alleyes.check_standing import shows_paper, shows_way
from alleyes.cones import Above, Below, Lies, Mixed, NoScene, Zero
from alleyes.errors import BadStanding, BadStep, Impossible, NoLabel, NoPicture
from alleyes.facts import Far, Null
from alleyes.papers import Denial, Paper
from alleyes.ratios import Ratio
from alleyes.rows import Row
from alleyes.standing import NeverOne, Possible, home_form, stand, way_of
from alleyes.steps import Mark, Step
from alleyes.ways import Way
from tests.bending import parts_bent
from tests.painting import box_nulls, cube_world, true_ties
from tests.right_standing import is_right_way, right_paper
from tests.support import Checks, Odd
from tests.test_standing import AB, AD, AGAIN, CORNER, EDGES, HERE, IMPOSSIBLE, JOINED, ONE, RIGHT, TIES, TILE, UP, between

NO_PAPERS = (None, True, 1, "possible", (), [], {}, Odd(), Row({}), Paper("possible", (), ()), Denial("noeye", (), 1, 1, 1))


def bars_of(seed):
    """A standing of two pictures of a box, one of them mirrored, that four tied pairs bar."""
    source = random.Random(seed)
    world = cube_world(source, ("one", "two"))
    one, two = world.pictures()
    facts = [*box_nulls(world, "one"), *box_nulls(world, "two"), *true_ties(world)]
    return stand(Book([one, two.mirrored()], facts))


class CheckStandingTest(unittest.TestCase, Checks):
    def check_bends(self, source, paper, shows, is_right, many):
        taken = 0
        for _ in range(many):
            other = type(paper)(*parts_bent(paper.parts, source))
            self.assertIs(shows(other), is_right(other), other.parts)
            taken += is_right(other)
        return taken

    def test_bent_ways(self):
        source, taken = random.Random(1), 0
        for standing, step in ((HERE, AB), (HERE, AD), (JOINED, between("a", "b", "two")), (JOINED, between("e", "c"))):
            way = way_of(standing, step)
            form, cone = home_form(standing, step), standing.heap_of(step.picture_name).cone
            self.assertIs(shows_way(standing, step, way), True)
            taken += self.check_bends(source, way, lambda value: shows_way(standing, step, value),
                                      lambda value: is_right_way(cone, form, value), 250)
        self.assertGreater(taken, 2)

    def test_other_factors(self):
        """Any factor that fits is right, not only a rest."""
        way = way_of(HERE, AB)
        row = home_form(HERE, AB)[0]
        self.assertNotEqual(row, way.factor)
        self.assertTrue(shows_way(HERE, AB, Way((1, 0, 0), row, [[0, 0, 0], *way.sums[1:]], Above((0, 0, 0), (), {"one.b": 6}))))
        self.assertFalse(shows_way(HERE, AB, Way((-1, 0, 0), -row, [[0, 0, 0], *way.sums[1:]], Above((0, 0, 0), (), {"one.b": 6}))))
        self.assertFalse(shows_way(HERE, AB, Way((2, 0, 0), row * Ratio(1, 2), [[0, 0, 0], *way.sums[1:]],
                                                 Above((0, 0, 0), (), {"one.b": 3}))))

    def test_other_papers_of_a_factor(self):
        """A step that is nothing, or a factor that is not above, has no Way, however right its other papers are."""
        still = stand(Book([ONE], [Null(TILE)]))
        weights = [[0, 0, 1], [0, 0, 0], [0, 0, 0]]
        for sums in ([[1, 0, 0], [0, 1, 0], [0, 0, 1]], weights):
            for above in (Zero((0, 0, 0)), Above((0, 0, 0), (), {}), Mixed((), (), ()), None):
                self.assertIs(shows_way(still, TILE, Way((1, 0, 0), Row({}), sums, above)), False)
        way = way_of(HERE, AB)
        below = Below(*way.above.parts)
        self.assertIs(shows_way(HERE, AB, Way((-1, 0, 0), -way.factor, way.sums, below)), False)
        self.assertIs(shows_way(HERE, AB, Way(way.direction, way.factor, way.sums, below)), False)
        self.assertIs(shows_way(HERE, AB, Way(way.direction, way.factor, way.sums, Zero(way.sums[0]))), False)

    def test_sides(self):
        right = Way((1, 0, 0), None, (), None)
        self.assertEqual(way_of(HERE, RIGHT), right)
        for direction, factor, sums, above in (((0, 1, 0), None, (), None), ((1, 0, 0), Row({}), (), None), ((1, 0, 0), None, None, None),
                                               ((1, 0, 0), None, ((),), None), ((1, 0, 0), None, (), ()), ((2, 0, 0), None, (), None),
                                               ((-1, 0, 0), None, (), None), ((True, False, False), None, (), None),
                                               ((Ratio(1), 0, 0), None, (), None), ((1, 0), None, (), None), (1, None, (), None)):
            self.assertIs(shows_way(HERE, RIGHT, Way(direction, factor, sums, above)), False)
        self.assertIs(shows_way(HERE, RIGHT, right), True)
        self.assertIs(shows_way(HERE, UP, right), False)
        self.assertIs(shows_way(JOINED, Step.right_of("two"), Way((1, 0, -1), None, (), None)), True)
        self.assertIs(shows_way(HERE, AB, right), False)
        for value in NO_PAPERS:
            self.assertIs(shows_way(HERE, RIGHT, value), False)
            self.assertIs(shows_way(HERE, AB, value), False)

    def test_bent_papers(self):
        source, words = random.Random(2), {}
        for standing in (HERE, JOINED, *IMPOSSIBLE.values(), bars_of(3), bars_of(4)):
            paper = standing.paper
            self.assertIs(shows_paper(standing, paper), True)
            taken = self.check_bends(source, paper, lambda value: shows_paper(standing, value),
                                     lambda value: right_paper(standing, value), 250)
            words[paper.word] = words.get(paper.word, 0) + taken
            for value in (*NO_PAPERS, *[other.paper for other in (HERE, JOINED, *IMPOSSIBLE.values())]):
                self.assertIs(shows_paper(standing, value), right_paper(standing, value))
        self.assertEqual(len(words), 4)
        self.assertGreater(sum(words.values()), 5)

    def test_other_kinds(self):
        scenes, eyes = HERE.paper.parts
        for value in (Possible((), ()), Possible(scenes * 2, eyes * 2), Possible(scenes, ()), Possible((), eyes), Possible(eyes, scenes),
                      Possible([scenes[0].depths], eyes), Possible([NoScene((0, 0, 0), (), {"one.a": 1})], eyes), Possible(None, eyes),
                      Possible(scenes, [NoEye((0,), 0, 0, 0)]), scenes[0], eyes[0], NeverOne((), 0, 0, ())):
            self.assertIs(shows_paper(HERE, value), False)
        dark, bars, blind = IMPOSSIBLE.values()
        for standing in (dark, bars, blind):
            for value in (Possible((), ()), Possible(scenes, eyes), Lies({"one.a": 1, "one.b": 1, "one.c": 3, "one.d": 3}), Sees(3, 3, 18)):
                self.assertIs(shows_paper(standing, value), False)
        for standing in (HERE, dark, bars):
            self.assertIs(shows_paper(standing, blind.paper), False)
        for standing in (HERE, blind, bars):
            self.assertIs(shows_paper(standing, dark.paper), False)

    def test_two_heaps(self):
        two = AGAIN.renamed("two")
        standing = stand(Book([CORNER, two], EDGES))
        scenes, eyes = standing.paper.parts
        self.assertIs(shows_paper(standing, standing.paper), True)
        self.assertIs(shows_paper(standing, Possible(scenes[::-1], eyes[::-1])), False)
        self.assertIs(shows_paper(standing, Possible(scenes, eyes[::-1])), True)
        self.assertIs(shows_paper(standing, Possible(scenes[:1], eyes[:1])), False)

    def test_never_one(self):
        """Any four tied pairs that bar, ascending, with the right Ways and determinants."""
        standing = bars_of(7)
        pairs = standing.book.pairs("one", "two")
        seen = set()
        source = random.Random(5)
        for _ in range(60):
            chosen = [pairs[at] for at in sorted(source.sample(range(8), 4))]
            ways, sizes = [], []
            for side in range(2):
                own = [self.own_way(standing, Step.between(chosen[0][side], pair[side])) for pair in chosen[1:]]
                ways.extend(own)
                sizes.append(self.size_of(own))
            value = NeverOne(chosen, *sizes, ways)
            seen.add(right_paper(standing, value))
            self.assertIs(shows_paper(standing, value), right_paper(standing, value))
            for parts in ((chosen[::-1], *sizes, ways), ([pair[::-1] for pair in chosen], *sizes[::-1], ways[3:] + ways[:3]),
                          (chosen, *sizes, ways[3:] + ways[:3]), ([chosen[0], chosen[0], *chosen[2:]], *sizes, ways),
                          (chosen, sizes[1], sizes[0], ways), (chosen[:3], *sizes, ways), (chosen, *sizes, ways[:5])):
                self.assertIs(shows_paper(standing, NeverOne(*parts)), right_paper(standing, NeverOne(*parts)))
        self.assertEqual(seen, {True, False})
        ties, one, other, ways = standing.paper.parts
        for start, end in (("six.a", "two.a"), ("one.a", "six.a"), ("one.a", "one.b"), ("one.z", "two.z"), ("one", "two"), (3, 4)):
            for told in ([(start, end), *ties[1:]], [*ties[:3], (start, end)], [(start, end)] * 4):
                self.assertIs(shows_paper(standing, NeverOne(told, one, other, ways)), False)
        for number in (True, None, "1", 1.0):
            self.assertIs(shows_paper(standing, NeverOne(ties, number, other, ways)), False)
            self.assertIs(shows_paper(standing, NeverOne(ties, one, number, ways)), False)

    def own_way(self, standing, step):
        """The Way of a step in the barred heap of its picture, which is a heap alone."""
        picture = standing.book.picture_of(step.picture_name)
        facts = [fact for fact in standing.book.facts if isinstance(fact, Null) and fact.step.picture_name == picture.name]
        return way_of(stand(Book([picture], facts)), step)

    def size_of(self, ways):
        from alleyes.sheet import determinant
        label = ways[0].factor.labels[0]
        times = [way.factor.ratio_of(label).over(ways[0].factor.ratio_of(label)) for way in ways]
        return determinant(*[[number * many for number in map(Ratio, way.direction)] for way, many in zip(ways, times)])

    def test_heap_that_is_not_barred(self):
        """Pairs of a third picture show nothing, though they are tied."""
        bars = bars_of(9)
        third = bars.book.picture_of("two").renamed("zwo")
        facts = [*bars.book.facts, *[Null(Step({f"zwo.{label[4:]}": ratio for label, ratio in fact.step.terms}))
                                     for fact in bars.book.facts if isinstance(fact, Null) and fact.step.picture_name == "two"]]
        from alleyes.facts import Tie
        facts += [Tie(f"one.{letter}", f"zwo.{letter}") for letter in "abcdefgh"]
        standing = stand(Book([*bars.book.pictures, third], facts))
        self.assertEqual([heap.home for heap in standing.barred], ["one", "two"])
        ties, one, other, ways = standing.paper.parts
        moved = NeverOne([(start, end.replace("two.", "zwo.")) for start, end in ties], one, other, ways)
        self.assertEqual([shows_paper(standing, standing.paper), shows_paper(standing, moved), right_paper(standing, moved)],
                         [True, False, False])

    def test_errors(self):
        for value in (None, HERE.book, HERE.paper, Odd()):
            self.bad(BadStanding, "standing", shows_way, value, None, None)
            self.bad(BadStanding, "standing", shows_paper, value, None)
        for standing in (HERE, *IMPOSSIBLE.values()):
            for value in (None, Mark.of_point("one.a"), "right one", Odd()):
                self.bad(BadStep, "step", shows_way, standing, value, None)
            self.raised(NoLabel, {"name": "one.y"}, shows_way, standing, Step.between("one.z", "one.y"), None)
            self.raised(NoPicture, {"name": "six"}, shows_way, standing, Step.up_of("six"), None)
        for word, standing in IMPOSSIBLE.items():
            self.raised(Impossible, {"word": word}, shows_way, standing, AB, None)

    def test_eyes_that_a_barred_heap_lacks_too(self):
        """Of a heap that is barred by its depths a NoEye is right, too, if its lines leave no eye."""
        standing = stand(Book([ONE], [Null(AB), Far("one", -1)]))
        self.assertEqual(standing.paper.word, "noscene")
        self.assertIs(shows_paper(standing, NoEye((1,), 0, 0, 1)), True)
        self.assertIs(shows_paper(standing, NoEye((1,), 0, 0, 2)), False)

    def test_ties_are_needed(self):
        self.assertEqual(len(TIES), 4)
        self.assertIs(shows_paper(stand(Book([CORNER, AGAIN], (*EDGES, *TIES[:3]))), IMPOSSIBLE["neverone"].paper), False)


if __name__ == "__main__":
    unittest.main()
