"""Checks of choice: papers bent at each part are taken exactly if they are right, reckoned anew."""

import random
import unittest

from alleyes.bases import Cheapest, Short, cheapest
from alleyes.books import Book
from alleyes.bowl import NoEye, Sees
from alleyes.check_choice import shows_against, shows_cheapest, shows_clash, shows_offers, shows_strikes
from alleyes.clashes import Against, Clash, clash, fewest_lines
from alleyes.cones import Lies
from alleyes.errors import BadBook, BadFact, BadFlat, BadNumber, BadStanding, Impossible, NoLabel, NotJoined
from alleyes.facts import Far, Foot, Null, Upright
from alleyes.flats import EyeRow, Flat
from alleyes.offers import Offers, sorted_offers
from alleyes.papers import Denial, Paper
from alleyes.ratios import Ratio
from alleyes.standing import Possible, stand
from alleyes.steps import Step
from alleyes.strikes import NoStrike, Strikes, strikes
from alleyes.words import Always, Never
from tests.bending import parts_bent
from tests.chosen import bent_book, full_book, mirrored_book
from tests.right_choice import part, right_against, right_cheapest, right_clash, right_offers, right_strikes
from tests.support import Checks, Odd
from tests.test_bases import OFFERS, PLAIN
from tests.test_check_standing import NO_PAPERS
from tests.test_clashes import BENT
from tests.test_offers import FOOTED, SIDES
from tests.test_standing import AB, AD, AGAIN, CORNER, EDGES, IMPOSSIBLE, ONE, TILE, UP

TWICE = Book([ONE], [Foot("one", 1, 1), Foot("one", 2, 2), Far("one", 100), Far("one", 101)])


class CheckChoiceTest(unittest.TestCase, Checks):
    def check(self, shows, right, papers, source, many):
        """All papers, so many bent ones of each, and what are no papers, are taken exactly if they are right."""
        taken = 0
        for paper in papers:
            self.assertIs(shows(paper), right(paper), paper.parts)
            for _ in range(many):
                bent = type(paper)(*parts_bent(paper.parts, source))
                wanted = right(bent)
                taken += wanted
                self.assertIs(shows(bent), wanted, bent.parts)
            self.assertIs(shows(Paper(paper.word, *paper.parts)), False)
            self.assertIs(shows(Denial(paper.word, *paper.parts)), False)
        for value in NO_PAPERS:
            self.assertIs(shows(value), False)
        return taken

    def test_clashes(self):
        source, taken = random.Random(1), 0
        books = [BENT, IMPOSSIBLE["noscene"].book, TWICE, mirrored_book(source)] + [bent_book(source, ("one",), 3, 7) for _ in range(3)]
        for book in books:
            found = clash(book)
            if found is not None:
                self.assertIs(shows_clash(book=book, value=found), True)
                papers = [found, *[clash(other) for other in (BENT, TWICE)]]
                taken += self.check(lambda value: shows_clash(book, value), lambda value: right_clash(book, value), papers, source, 14)
        self.assertGreater(taken, 3)
        for value in (None, clash(BENT), *NO_PAPERS):
            self.assertIs(shows_clash(Book([ONE], [Null(TILE)]), value), False)

    def test_clashes_as_told(self):
        bar = part(BENT, [0, 1, 2]).paper
        spared = [part(BENT, [number]).paper for number in (2, 1)]
        small = part(BENT, [1, 2]).paper
        for numbers, paper, told, wanted in (((1, 2), small, spared, True), ([1, 2], small, spared[::-1], False),
                                             ((2, 1), small, spared[::-1], False),
                                             ((0, 1, 2), bar, [part(BENT, [1, 2]).paper, *spared], False), ((1,), small, spared[:1], False),
                                             ((1, 2), spared[0], spared, False), ((1, 2), small, spared[:1], False),
                                             ((1, 2), small, (), False),
                                             ((0,), part(BENT, [0]).paper, [part(BENT, []).paper], False),
                                             ((True, 2), small, spared, False), ((1, Ratio(2)), small, spared, False),
                                             ((1, 3), small, spared, False),
                                             ((1, 2), bar, spared, True), ((1, 2), None, spared, False), ((), Possible([], []), (), False),
                                             ((1, 1, 2), small, [small, small, small], False), ((1, 2), small, [small, small], False)):
            self.assertIs(right_clash(BENT, Clash(numbers, paper, told)), wanted, numbers)
            self.assertIs(shows_clash(BENT, Clash(numbers, paper, told)), wanted, numbers)
        self.assertEqual(type(spared[0].scenes[0]), Lies)

    def test_many_facts(self):
        """They never raise TooMany."""
        book = full_book([ONE], [Null(TILE), Upright(AB, AD)], 58).with_fact(Foot("one", 3, 3)).with_fact(Far("one", 18))
        self.assertIs(shows_clash(book, clash(book)), True)
        paper = part(book, range(59)).paper
        clashes = [[(58, 59), part(book, (58, 59)).paper]]
        for value, wanted in ((Strikes((59,), paper, clashes), True), (Strikes((59,), paper, ()), False), (Strikes((), paper, ()), False)):
            self.assertIs(shows_strikes(book, 2, value), wanted)
        self.assertIs(shows_strikes(book, 0, NoStrike(0, clashes)), True)
        self.assertIs(shows_strikes(book, 1, NoStrike(1, clashes)), False)
        lines = [EyeRow(0, 0, 1, -9)] * 20 + [EyeRow(0, 0, 1, -8)]
        self.assertIs(shows_against(Flat(lines), Against((3, 20), NoEye((1, -1), None, None, None))), False)
        self.assertIs(shows_against(Flat(lines), Against((3, 20), NoEye((-1, 1), None, None, None))), True)
        many = [Far("one", 27)] * 13
        self.assertIs(shows_cheapest(PLAIN, many, [0] * 13, Short(1, ((0, 0, 27), (1, 0, 27)))), True)
        words = sorted_offers(FOOTED, [Null(TILE)]).follows[0][1]
        self.assertIs(shows_offers(FOOTED, [Null(TILE)] * 13, Offers([(number, words) for number in range(13)], (), (), ())), True)

    def test_against(self):
        source, taken = random.Random(2), 0
        flats = [Flat([EyeRow(0, 0, 1, -18), EyeRow(0, 1, 0, -3), EyeRow(0, 1, 0, 0)]),
                 Flat([EyeRow(1, 0, 0, 0), EyeRow(0, 0, 1, 4), EyeRow(0, 0, 1, 0)]),
                 Flat([EyeRow(1, 0, 0, 0), EyeRow(0, 1, 0, 0), EyeRow(0, 0, 1, -4), EyeRow(1, 1, 1, -5)])]
        for flat in flats:
            found = fewest_lines(flat)
            self.assertIs(shows_against(flat=flat, value=found), True)
            papers = [found, Against(range(len(flat)), None), *[fewest_lines(other) for other in flats]]
            taken += self.check(lambda value: shows_against(flat, value), lambda value: right_against((), flat.lines, value), papers,
                                source, 120)
        self.assertGreater(taken, 3)
        # Any indices that leave no eye are right, not the fewest alone.
        longer = Against((0, 1, 2), NoEye((0, Ratio(-1, 3), Ratio(1, 3)), None, None, None))
        self.assertIs(shows_against(flats[0], longer), True)
        for numbers in ((2, 1), (1, 1), (1, 3), (True, 2), (1,), (), [1, Ratio(2)], None, 1):
            self.assertIs(shows_against(flats[0], Against(numbers, fewest_lines(flats[0]).paper)), False)
        self.assertIs(shows_against(Flat([]), Against((), NoEye((), 0, 0, 0))), False)
        self.assertIs(shows_against(flats[0], Against((0,), Sees(0, 0, 18))), False)

    def test_cheapest(self):
        source, taken = random.Random(3), {}
        half = stand(Book([ONE], [Null(TILE), Far("one", 27), Far("one", 27)]))
        for standing, offered, prices in ((PLAIN, OFFERS, [1, 2, 4, 2]), (PLAIN, OFFERS, [1, 2, 4, 9]), (PLAIN, OFFERS[:2], [0, 0]),
                                          (half, OFFERS, [1, 2, 1, 0]),
                                          (PLAIN, OFFERS * 2, [0, 1, 1, 1, 1, 0, 1, Ratio(1, 2)]),
                                          (half, [Far("one", 26), *OFFERS], [0] * 5),
                                          (PLAIN, [Far("one", 26), Upright(AB, AD), Far("one", 27)], [0, 0, 0])):
            found = cheapest(standing, offered, prices)
            self.assertIs(shows_cheapest(standing=standing, offered=offered, prices=prices, value=found), True)
            papers = [found, *[cheapest(PLAIN, OFFERS, told) for told in ([1, 2, 4, 2], [1, 2, 4, 9])], cheapest(PLAIN, OFFERS[:2], [0, 0])]
            many = self.check(lambda value: shows_cheapest(standing, offered, prices, value),
                              lambda value: right_cheapest(standing, offered, prices, value),
                              papers, source, 200)
            taken[found.word] = taken.get(found.word, 0) + many
        self.assertTrue(all(taken[word] > 3 for word in ("cheapest", "short", "against")), taken)

    def test_cheapest_as_told(self):
        found = cheapest(PLAIN, OFFERS, [1, 2, 4, 2])
        parts = dict(zip(("numbers", "price", "eye", "axes", "closes", "apart"), found.parts))
        sixth = Ratio(1, 6)
        for name, value, wanted in (("numbers", (0, 3, 1), False), ("numbers", (0, 1), False), ("price", 5, True), ("price", 4, False),
                                    ("price", True, False),
                                    ("price", 5.0, False), ("eye", (3, 3, 27), True), ("eye", (3, 3, 28), False),
                                    ("eye", (3, 3), False), ("eye", None, False),
                                    ("axes", found.axes[:2], False), ("axes", found.axes[::-1], False),
                                    ("axes", (*found.axes, (0, 0, 1)), False),
                                    ("closes", ((-1, -sixth, -sixth),), True), ("closes", (), False), ("closes", ((-1, -sixth, 0),), False),
                                    ("apart", ((2, 4, 27), (3, 0, 27), (3, Ratio(19, 6), 28)), True),
                                    ("apart", ((2, 4, 27), (3, 0, 27)), False),
                                    ("apart", ((2, 4, 27), (3, 3, 27), (3, Ratio(19, 6), 28)), False),
                                    ("apart", ((3, 0, 27), (2, 4, 27), (3, Ratio(19, 6), 28)), False),
                                    ("apart", ((1, 5, 27), (3, 1, 27), (3, Ratio(10, 3), 29)), True)):
            bent = Cheapest(**{**parts, name: value})
            self.assertIs(shows_cheapest(PLAIN, OFFERS, [1, 2, 4, 2], bent), wanted, (name, value))
            self.assertIs(right_cheapest(PLAIN, OFFERS, [1, 2, 4, 2], bent), wanted, (name, value))
        # A paper of other prices is right if it is as cheap, and its closes need nothing dearer.
        self.assertIs(shows_cheapest(PLAIN, OFFERS, [2, 2, 1, 2], Cheapest(*[5 if name == "price" else part for name,
                part in parts.items()])), False)
        self.assertIs(shows_cheapest(PLAIN, OFFERS, [1, 2, 2, 2], found), True)
        self.assertIs(shows_cheapest(PLAIN, OFFERS, [1, 2, Ratio(3, 2), 2], found), False)
        for eyes, wanted in ((((3, 3, 27), (3, 4, 33)), True), (((3, 3, 27), (3, 3, 27)), False),
                             (((3, 3, 27), (3, 3, Ratio(27))), False), (((3, 3, 27),), False),
                             (((3, 3, 27), (3, 7, 51)), False), (((3, 3, 27), (2, 3, 27)), False), (None, False),
                             (((3, 3, 27), (3, 4, 33), (3, 2, 21)), False)):
            self.assertIs(shows_cheapest(PLAIN, OFFERS[:2], [0, 0], Short(2, eyes)), wanted, eyes)
        for rank in (1, 3, True, Ratio(2), "2", None):
            self.assertIs(shows_cheapest(PLAIN, OFFERS[:2], [0, 0], Short(rank, ((3, 3, 27), (3, 4, 33)))), False)

    def test_strikes(self):
        source, taken = random.Random(4), 0
        for book in (BENT, TWICE, Book([ONE], [Null(TILE)]), bent_book(source, ("one",), 3, 6), mirrored_book(source)):
            for most in range(3):
                found = strikes(book, most)
                self.assertIs(shows_strikes(book=book, most=most, value=found), True)
                papers = [found, *[strikes(TWICE, other) for other in range(3)], *[strikes(book, other) for other in range(3)]]
                taken += self.check(lambda value: shows_strikes(book, most, value), lambda value: right_strikes(book, most, value),
                                    papers, source, 5)
        self.assertGreater(taken, 3)

    def test_strikes_as_told(self):
        pairs = [(numbers, part(TWICE, numbers).paper) for numbers in ((0, 1), (2, 3), (0, 1, 2, 3), (0, 1, 2))]
        left = {numbers: part(TWICE, set(range(4)) - set(numbers)).paper for numbers in ((0, 2), (1, 3), (0, 1), (1,), (0, 1, 2))}
        for most, value, wanted in ((2, Strikes((0, 2), left[0, 2], pairs[:2]), True), (2, Strikes((1, 3), left[1, 3], pairs[:2]), True),
                                    (2, Strikes((1, 3), left[1, 3], pairs), True), (1, Strikes((0, 2), left[0, 2], pairs[:2]), False),
                                    (2, Strikes((0, 2), left[0, 2], pairs[:1]), False), (2, Strikes((0, 2), left[0, 2], pairs[2:]), False),
                                    (2, Strikes((0, 2), left[0, 2], ()), False), (2, Strikes((2, 0), left[0, 2], pairs[:2]), False),
                                    (2, Strikes((0, 2), left[1, 3], pairs[:2]),
                                     right_strikes(TWICE, 2, Strikes((0, 2), left[1, 3], pairs[:2]))),
                                    (2, Strikes((0, 1), left[0, 1], pairs[:2]), False), (2, Strikes((1,), left[1,], pairs[:1]), False),
                                    (2, Strikes((0, 2), left[0, 2], [pairs[0], ((3, 2), pairs[1][1])]), False),
                                    (2, Strikes((0, 2), left[0, 2], [pairs[0], ((0, 2), left[1, 3])]), False),
                                    (2, Strikes((0, 2), left[0, 2], [pairs[0], pairs[1][0]]), False),
                                    (1, NoStrike(1, pairs[:2]), True), (1, NoStrike(True, pairs[:2]), False),
                                    (1, NoStrike(Ratio(1), pairs[:2]), False),
                                    (1, NoStrike(0, pairs[:2]), False), (1, NoStrike(2, pairs[:2]), False),
                                    (0, NoStrike(0, pairs[:1]), True),
                                    (0, NoStrike(0, ()), False), (1, NoStrike(1, pairs[2:]), False), (2, NoStrike(2, pairs), False),
                                    (0, NoStrike(0, pairs[3:]), True),
                                    (0, NoStrike(False, pairs[:1]), False), (1, NoStrike(1, [pairs[0], pairs[0]]), False),
                                    (1, NoStrike(1, [pairs[0], ((2,), part(TWICE, [2]).paper)]), False), (1, NoStrike(1, None), False)):
            self.assertIs(shows_strikes(TWICE, most, value), wanted, value.parts)
            self.assertIs(right_strikes(TWICE, most, value), wanted, value.parts)
        one = Book([ONE], [Far("one", -1)])
        bar = [((0,), stand(one).paper)]
        self.assertIs(shows_strikes(one, 2, Strikes((0,), part(one, ()).paper, bar)), True)
        self.assertIs(shows_strikes(one, 2, NoStrike(2, bar)), False)
        self.assertIs(shows_strikes(one, 2, NoStrike(2, ())), False)
        self.assertIs(shows_strikes(one, 0, NoStrike(0, bar)), True)

    def test_offers(self):
        source, taken = random.Random(5), 0
        for standing, offered in ((FOOTED, SIDES), (PLAIN, SIDES), (FOOTED, SIDES[:1]), (FOOTED, [Null(TILE), *SIDES, SIDES[0]]),
                                  (PLAIN, [])):
            found = sorted_offers(standing, offered)
            self.assertIs(shows_offers(standing=standing, offered=offered, value=found), True)
            papers = [found, sorted_offers(FOOTED, SIDES), sorted_offers(PLAIN, SIDES)]
            taken += self.check(lambda value: shows_offers(standing, offered, value),
                                lambda value: right_offers(standing, offered, value), papers, source, 150)
        self.assertGreater(taken, 3)
        self.assertIs(shows_offers(PLAIN, [], Offers([], (), [], ())), True)

    def test_offers_as_told(self):
        follows, bars, opens, waits = sorted_offers(FOOTED, SIDES).parts
        for parts in (((), bars, opens, waits), (follows + follows, bars, opens, waits), (bars, follows, opens, waits),
                      (follows, bars, waits, opens),
                      (((True, follows[0][1]),), bars, opens, waits), (((0, Always(())),), bars, opens, waits),
                      (((0, Never(follows[0][1].papers)),), bars, opens, waits),
                      (((4, follows[0][1]),), bars, opens, waits), ((follows[0][1],), bars, opens, waits), (None, bars, opens, waits),
                      (((Ratio(0), follows[0][1]),), bars, opens, waits),
                      (follows, bars + opens, (), waits), (follows, bars, waits + opens, ()), (follows, bars, (), waits + opens),
                      ((), follows + bars, opens, waits),
                      (follows + ((3, opens[0][1]),), bars, (), waits), (((-4, follows[0][1]),), bars, opens, waits)):
            self.assertIs(shows_offers(FOOTED, SIDES, Offers(*parts)), False)
            self.assertIs(right_offers(FOOTED, SIDES, Offers(*parts)), False)
        twice = sorted_offers(FOOTED, [Null(TILE), Null(TILE)])
        self.assertIs(shows_offers(FOOTED, [Null(TILE)] * 2, Offers(twice.follows[::-1], (), (), ())), False)

    def test_errors(self):
        lost = Upright(Step.between("one.x", "one.w"), AB)
        for value in (None, Odd(), PLAIN):
            self.bad(BadBook, "book", shows_clash, value, None)
            self.bad(BadBook, "book", shows_strikes, value, None, None)
            self.bad(BadFlat, "flat", shows_against, value, None)
        for value in (None, Odd(), BENT):
            self.bad(BadStanding, "standing", shows_cheapest, value, None, None, None)
            self.bad(BadStanding, "standing", shows_offers, value, None, None)
        for value in (None, True, -1, 3, Ratio(1), "1"):
            self.bad(BadNumber, "most", shows_strikes, BENT, value, None)
        for standing in (PLAIN, *IMPOSSIBLE.values()):
            self.bad(BadFact, "offered", shows_cheapest, standing, [], None, None)
            self.bad(BadNumber, "prices", shows_cheapest, standing, [lost], [-1], None)
            self.raised(NoLabel, {"name": "one.w"}, shows_cheapest, standing, [lost], [1], None)
            self.bad(BadFact, "offered", shows_offers, standing, [Far("one", 1)], None)
            self.raised(NoLabel, {"name": "one.w"}, shows_offers, standing, [lost], None)
        two = stand(Book([CORNER, AGAIN], EDGES))
        self.raised(NotJoined, {"one": "one", "other": "two"}, shows_cheapest, two, [Upright(UP, Step.up_of("two"))], [1], None)
        self.bad(BadFact, "offered", shows_cheapest, stand(Book([ONE])), [Upright(AB, UP)], [1], None)
        for word, standing in IMPOSSIBLE.items():
            self.raised(Impossible, {"word": word}, shows_cheapest, standing, [Far("one", 1)], [1], None)
            self.raised(Impossible, {"word": word}, shows_offers, standing, [], None)


if __name__ == "__main__":
    unittest.main()
