"""Bases: offered rows, and the cheapest facts that leave one eye, beside all choices of facts."""

import random
import unittest

from alleyes.bases import Cheapest, Short, cheapest, offered_row
from alleyes.books import Book
from alleyes.bowl import NoEye, some_eye
from alleyes.check_choice import shows_cheapest
from alleyes.clashes import Against
from alleyes.errors import BadFact, BadNumber, BadStanding, Impossible, NoLabel, NoPicture, NotJoined, TooMany
from alleyes.facts import Along, Far, Foot, Lengths, Null, Tie, Upright
from alleyes.flats import EyeRow, Flat
from alleyes.highest import one_eye
from alleyes.papers import Denial, Paper
from alleyes.ratios import Ratio
from alleyes.standing import stand
from alleyes.steps import Step
from tests.linked import linked_world
from tests.painting import cube_world, dot, ratio_of
from tests.right_choice import right_cheapest, subsets
from tests.support import NO_RATIOS, Checks, Odd, value_of
from tests.test_seconds import book_of
from tests.test_standing import AB, AD, AGAIN, CORNER, EDGES, IMPOSSIBLE, ONE, TILE, UP, between

PLAIN = stand(Book([ONE], [Null(TILE)]))
OFFERS = [Upright(AB, AD), Lengths(AB, AD), Upright(UP, AD), Far("one", 27)]


def offered_facts(source, world, many):
    """Uprights, lengths and fars of a box, most of them true."""
    found = []
    while len(found) < many:
        name = source.choice(list(world.looks))
        one, other = [between(*source.choice(["ab", "ac", "ae", "ad", "af", "bc", "be", "ag", "cd"]), name) for _ in range(2)]
        if source.random() < 0.2:
            one = source.choice([Step.right_of, Step.up_of])(name)
        kind = source.random()
        if kind < 0.15:
            found.append(Far(name, ratio_of(world.looks[name].eye()[2] + (source.random() < 0.2))))
        elif kind < 0.6 and (world.is_true(Upright(one, other)) or source.random() < 0.1):
            found.append(Upright(one, other))
        elif kind >= 0.6 and one.side is None:
            p, q = dot(world.led(one), world.led(one)), dot(world.led(other), world.led(other))
            found.append(Lengths(one, other, ratio_of(p + (source.random() < 0.1)), ratio_of(q)))
    return found


def least_price(told, rows, prices):
    """The least price of facts that leave one eye, by all choices; None if all together leave more than one."""
    found = [sum(value_of(prices[number]) for number in chosen) for chosen in subsets(len(rows))
             if one_eye(Flat([*told, *[rows[number] for number in chosen]])) is not None]
    return min(found) if found else None


class BasesTest(unittest.TestCase, Checks):
    def test_example(self):
        self.assertEqual([offered_row(PLAIN, fact) for fact in OFFERS],
                         [EyeRow(-1, 0, 0, 3), EyeRow(6, 6, -1, -9), EyeRow(0, -1, 0, 3), EyeRow(0, 0, 1, -27)])
        found, sixth = cheapest(PLAIN, OFFERS, [1, 2, 4, 2]), Ratio(1, 6)
        self.assertEqual([found.numbers, found.price, found.eye, found.axes, found.closes],
                         [(0, 1, 3), 5, (3, 3, 27), ((-1, 0, 0), (1, sixth, sixth), (0, 0, 1)), ((-1, -sixth, -sixth),)])
        self.assertEqual([cheapest(PLAIN, OFFERS, [1, 2, 4, 9]).numbers, cheapest(PLAIN, OFFERS[:2], [0, 0]).rank], [(0, 1, 2), 2])

    def test_papers(self):
        paper = Cheapest(numbers=[0], price=1, eye=[0, 0, 1], axes=[], closes=[[]], apart=[[1, 2, 9]])
        self.assertEqual([paper.word, paper.numbers, paper.price, paper.eye, paper.axes, paper.closes, paper.apart, bool(paper)],
                         ["cheapest", (0,), 1, (0, 0, 1), (), ((),), ((1, 2, 9),), True])
        short = Short(rank=1, eyes=[[0, 0, 1]])
        self.assertEqual([short.word, short.rank, short.eyes, short.parts, bool(short)],
                         ["short", 1, ((0, 0, 1),), (1, ((0, 0, 1),)), False])
        self.assertTrue(isinstance(paper, Paper) and isinstance(short, Denial))

    def test_offered_rows(self):
        """The row is the one that the fact gives when it is put in; None if it waits there."""
        source, seen = random.Random(1), {}
        for number in range(10):
            world, standing = linked_world(source, ("one",) if number & 1 else ("one", "two"))
            if number % 3 == 0:
                standing = stand(Book(standing.book.pictures, [fact for fact in standing.book.facts if type(fact) is not Tie]))
            facts = offered_facts(source, world, 4) + [Lengths(between("a", "b"), Step.right_of("one")),
                                                       Lengths(Step.up_of("one"), Step.up_of("one"))]
            if "two" in world.looks:
                facts += [Upright(between("a", "b"), between("a", "e", "two")), Lengths(between("a", "c", "two"), between("a", "c")),
                          Upright(UP, Step.up_of("two"))]
            for fact in facts:
                newer = stand(standing.book.with_fact(fact))
                if newer.is_possible:
                    sources = [(at, line) for heap in newer.heaps for at, line in zip(heap.eye_sources, heap.flat.lines)]
                    wanted = [line for at, line in sources if at == (len(standing.book.facts), 0)]
                    found = offered_row(standing=standing, fact=fact)
                    self.assertEqual(found, wanted[0] if wanted else None)
                    seen[bool(wanted), type(fact)] = True
        for kind in (Upright, Lengths):
            self.assertTrue((True, kind) in seen and (False, kind) in seen)
        self.assertIn((True, Far), seen)

    def test_cheapest(self):
        """Beside all choices: which paper, and the least price."""
        source, words = random.Random(2), {}
        for number in range(30):
            world = cube_world(source, ("one",) if number & 1 else ("one", "two"))
            book = book_of(world)
            for fact in offered_facts(source, world, number % 3):
                if stand(book.with_fact(fact)).is_possible:
                    book = book.with_fact(fact)
            standing = stand(book)
            offered = offered_facts(source, world, source.randint(1, 7))
            prices = [source.choice([0, 1, 2, 3, Ratio(1, 2), Ratio(5, 3)]) for _ in offered]
            if number % 6 == 0:
                prices = [source.choice([0, 1]) for _ in offered]
            rows = [offered_row(standing, fact) for fact in offered]
            if None in rows:
                self.bad(BadFact, "offered", cheapest, standing, offered, prices)
                words["waits"] = True
                continue
            found = cheapest(standing=standing, offered=offered, prices=prices)
            told = standing.heaps[0].flat.lines
            words[found.word] = True
            self.assertTrue(right_cheapest(standing, offered, prices, found))
            self.assertIs(shows_cheapest(standing, offered, prices, found), True)
            self.assertEqual(cheapest(stand(book), tuple(offered), tuple(prices)), found)
            whole = some_eye(Flat([*told, *rows]))
            if type(whole) is NoEye:
                wanted = [chosen for chosen in subsets(len(rows)) if type(some_eye(Flat([*told, *[rows[at] for at in chosen]]))) is NoEye]
                self.assertEqual([type(found), found.numbers], [Against, wanted[0]])
                continue
            least = least_price(told, rows, prices)
            self.assertIs(type(found), Short if least is None else Cheapest)
            if least is not None:
                self.assertEqual(value_of(found.price), least)
                self.assertEqual(list(found.numbers), sorted(found.numbers))
                self.all_ratios([found.price, *found.eye, *[part for weights in (*found.axes, *found.closes) for part in weights]])
                self.assertEqual(len(found.numbers), 3 - Flat(list(told)).rank)
        self.assertTrue({"cheapest", "short", "against"} <= set(words))

    def test_told_lines(self):
        """Told lines that leave one eye already want no more; what they leave is not bought twice."""
        fixed = stand(Book([ONE], [Null(TILE), Foot("one", 3, 3), Far("one", 27)]))
        found = cheapest(fixed, OFFERS, [0, 0, 1, 2])
        self.assertEqual([found.numbers, found.price, found.eye, found.apart, len(found.closes)], [(), 0, (3, 3, 27), (), 4])
        self.assertTrue(right_cheapest(fixed, OFFERS, [0, 0, 1, 2], found))
        self.assertIs(type(found.price), Ratio)
        half = stand(Book([ONE], [Null(TILE), Far("one", 27)]))
        found = cheapest(half, OFFERS, [5, 1, 1, 0])
        self.assertEqual([found.numbers, found.price, found.eye], [(1, 2), 2, (3, 3, 27)])
        against = cheapest(half, [Far("one", 26), Upright(AB, AD)], [0, 0])
        self.assertEqual([against.numbers, len(against.paper.weights), some_eye(half.heaps[0].flat).word], [(0,), 2, "sees"])
        self.assertEqual(cheapest(PLAIN, [Far("one", 27), Far("one", 26), Far("one", 27)], [0, 0, 0]).numbers, (0, 1))

    def test_apart(self):
        """Where the row to spare is 0 at the highest eye that the others leave, another eye is told."""
        centred = stand(Book([ONE.moved(-3, -3)], [Null(TILE)]))
        offered = [Upright(AB, AD), Upright(UP, AD), Far("one", 9)]
        found = cheapest(centred, offered, [1, 1, 1])
        self.assertEqual([found.numbers, found.eye], [(0, 1, 2), (0, 0, 9)])
        self.assertTrue(right_cheapest(centred, offered, [1, 1, 1], found))

    def test_prices(self):
        """Prices of 0, and equal ones, leave out what is to spare; the price is the least one."""
        twice = [*OFFERS, *OFFERS]
        for prices, price in (([0] * 8, 0), ([1] * 8, 3), ([3, 3, 3, 3, 1, 1, 1, 1], 3), ([0, 1, 1, 1, 1, 0, 1, 1], 1),
                              ([Ratio(1, 3)] * 8, 1), ([7, 1, 2, 3, 7, 1, 9, 9], 6)):
            found = cheapest(PLAIN, twice, prices)
            self.assertEqual([len(found.numbers), found.price, found.eye], [3, price, (3, 3, 27)])
            self.assertTrue(right_cheapest(PLAIN, twice, prices, found))
        self.assertEqual(cheapest(PLAIN, OFFERS[:1], [0]).parts[0], 1)

    def test_order_of_errors(self):
        lost, away = Upright(Step.between("one.x", "one.w"), Step.up_of("six")), Far("six", 1)
        two, far = stand(Book([CORNER, AGAIN], EDGES)), Far("one", 9)
        for value in (None, PLAIN.book, Odd()):
            self.bad(BadStanding, "standing", offered_row, value, None)
            self.bad(BadStanding, "standing", cheapest, value, None, None)
        for standing in (PLAIN, two, *IMPOSSIBLE.values()):
            for value in (None, Null(TILE), Foot("one", 1, 2), Along(AB, AD), Tie("one.a", "two.a"), AB, "far one | 1", Odd()):
                self.bad(BadFact, "fact", offered_row, standing, value)
                self.bad(BadFact, "offered", cheapest, standing, [lost, value], None)
                self.bad(BadFact, "offered", cheapest, standing, value, None)
            for value in ([], (), {}, "far", None, far):
                self.bad(BadFact, "offered", cheapest, standing, value, None)
            for value in (None, 1, [], [1], [1, 2, 3], {0: 1, 1: 1}, "11", *[[1, part] for part in NO_RATIOS], [1, -1], [Ratio(-1, 9), 2]):
                self.bad(BadNumber, "prices", cheapest, standing, [lost, away], value)
            self.raised(NoLabel, {"name": "one.w"}, cheapest, standing, [far, lost, away], [1, 1, 1])
            self.raised(NoPicture, {"name": "six"}, cheapest, standing, [away, lost] * 7, [1] * 14)
            self.raised(NoLabel, {"name": "one.w"}, offered_row, standing, lost)
            self.raised(NoPicture, {"name": "six"}, offered_row, standing, away)
        for word, standing in IMPOSSIBLE.items():
            self.raised(Impossible, {"word": word}, offered_row, standing, far)
            self.raised(Impossible, {"word": word}, cheapest, standing, [far] * 13, [0] * 13)
        turned = Upright(UP, Step.up_of("two"))
        for facts, one, other in (([Upright(between("a", "c", "two"), UP)], "two", "one"), ([far, turned], "one", "two"),
                                  ([turned], "one", "two"),
                                  ([Far("two", 1), turned, far], "two", "one"),
                                  ([far, Upright(between("a", "d"), between("b", "c")), turned] * 5, "one", "two")):
            self.raised(NotJoined, {"one": one, "other": other}, cheapest, two, facts, [1] * len(facts))
        self.assertIsNone(offered_row(two, turned))
        waiting = Upright(between("d", "e"), UP)
        self.bad(BadFact, "offered", cheapest, stand(Book([CORNER])), [far, waiting] * 7, [1] * 14)
        self.raised(TooMany, {"what": "offered", "most": 12}, cheapest, PLAIN, [far] * 13, [1] * 13)
        self.assertEqual(cheapest(PLAIN, [Far("one", 27)] * 12, [1] * 12).rank, 1)


if __name__ == "__main__":
    unittest.main()
