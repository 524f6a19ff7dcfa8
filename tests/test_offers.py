"""Offers: facts sorted by their words, and the next fact to measure, beside books with each fact put in."""

import random
import unittest

from alleyes.books import Book
from alleyes.check_choice import shows_offers
from alleyes.errors import BadFact, BadSaying, BadStanding, Impossible, NoLabel, NoPicture, TooMany, Twice
from alleyes.facts import Along, Far, Foot, InPlane, Lengths, Null, SameWay, Tie, Upright
from alleyes.offers import Next, Offers, next_measure, sorted_offers
from alleyes.papers import Paper
from alleyes.ratios import Ratio
from alleyes.sayings import AtLeast, Before, Deeper, Longer, Sharp
from alleyes.standing import stand
from alleyes.steps import Mark, Step
from alleyes.words import Always, Both, Never, Waits, word_of
from tests.chosen import false_fact
from tests.linked import linked_world
from tests.painting import any_step, random_fact, random_step
from tests.right_choice import right_offers
from tests.support import Checks, Odd
from tests.test_bases import PLAIN
from tests.test_standing import AB, AD, DC, IMPOSSIBLE, JOINED, ONE, RIGHT, TILE

FOOTED = stand(Book([ONE], [Null(TILE), Foot("one", 3, 0)]))
SIDES = [Along(AB, DC), Lengths(AB, AD), Lengths(AB, RIGHT), Lengths(AB, AD, 1, 2)]


def random_saying(source, world):
    name = source.choice(list(world.looks))
    one, other = source.sample(world.seen[name], 2)
    labels = [f"{name}.{one}", f"{name}.{other}"]
    return source.choice([lambda: Deeper(*labels), lambda: Before(Mark({labels[0]: 3, labels[1]: -2})),
                          lambda: Sharp(any_step(source, world), any_step(source, world)),
                          lambda: Longer(random_step(source, world, name), random_step(source, world, name), source.randint(1, 4), 2),
                          lambda: Upright(any_step(source, world), any_step(source, world)),
                          lambda: AtLeast(f"{name}.a", *labels, Ratio(1, 2), any_step(source, world), any_step(source, world))])()


class OffersTest(unittest.TestCase, Checks):
    def test_example(self):
        self.assertEqual([[number for number, paper in part] for part in sorted_offers(FOOTED, SIDES).parts], [[0], [1], [3], [2]])
        found = next_measure(PLAIN, [Far("one", 20), Foot("one", 3, 3), Foot("one", 3, 0)], [Upright(AB, AD), Lengths(AB, AD)])
        self.assertEqual(found.parts, (2, (2, 1, 0)))

    def test_papers(self):
        paper, after = Offers(follows=[[1, None]], bars=[], opens=(), waits=[]), Next(number=1, counts=[None, 2])
        self.assertEqual([paper.word, paper.follows, paper.bars, paper.opens, paper.waits, bool(paper)],
                         ["offers", ((1, None),), (), (), (), True])
        self.assertEqual([after.word, after.number, after.counts, bool(after)], ["next", 1, (None, 2), True])
        self.assertTrue(isinstance(paper, Paper) and isinstance(after, Paper))

    def test_sorted(self):
        source, seen = random.Random(1), {}
        for number in range(10):
            world, standing = linked_world(source, ("one",) if number & 1 else ("one", "two"))
            if number % 3 == 0:
                standing = stand(Book(standing.book.pictures, [fact for fact in standing.book.facts if type(fact) is not Tie]))
            offered = [fact for fact in [false_fact(source, world) if at & 1 else random_fact(source,
                    world) for at in range(12)] if type(fact) not in (Foot, Far, Tie)]
            found = sorted_offers(standing=standing, offered=offered)
            self.assertIs(type(found), Offers)
            for kind, words in zip((Always, Never, Both, Waits), found.parts):
                self.assertEqual(words, tuple((at, word_of(standing, fact)) for at,
                                              fact in enumerate(offered) if type(word_of(standing, fact)) is kind))
                seen[kind] = seen.get(kind, 0) + len(words)
            self.assertTrue(right_offers(standing, offered, found))
            self.assertIs(shows_offers(standing, offered, found), True)
            self.assertEqual(sorted_offers(standing, tuple(offered)), found)
        self.assertTrue(all(seen[kind] for kind in (Always, Never, Both, Waits)))
        self.assertEqual(sorted_offers(PLAIN, []), Offers((), (), (), ()))

    def test_next_measure(self):
        """Beside books with each fact put in: how many sayings are open there."""
        source, seen = random.Random(2), {}
        for number in range(8):
            world, standing = linked_world(source, ("one",) if number & 1 else ("one", "two"))
            book = standing.book
            if number % 3 == 0:
                book = Book(book.pictures, [fact for fact in book.facts if type(fact) is not Tie])
            offered = [false_fact(source, world) if at & 1 else random_fact(source, world) for at in range(6)]
            if number % 3 == 0 and "two" in world.looks:
                offered.append(Tie("one.a", "two.a"))
            sayings = [random_saying(source, world) for _ in range(6)]
            found = next_measure(standing=stand(book), offered=offered, sayings=sayings)
            counts = []
            for fact in offered:
                newer = stand(Book(book.pictures, [*book.facts, fact]))
                words = [word_of(newer, saying).word for saying in sayings] if newer.is_possible else None
                counts.append(words and len([word for word in words if word in ("both", "waits")]))
            left = [count for count in counts if count is not None]
            self.assertEqual([type(found), found.counts], [Next, tuple(counts)])
            self.assertEqual(found.number, counts.index(min(left)) if left else None)
            seen.update({count is None: True for count in counts})
        self.assertEqual(sorted(seen), [False, True])

    def test_next_of_few(self):
        self.assertEqual(next_measure(PLAIN, [], [Upright(AB, AD)]), Next(None, ()))
        self.assertEqual(next_measure(PLAIN, [Far("one", 20), Far("one", 20)], []), Next(0, (0, 0)))
        self.assertEqual(next_measure(PLAIN, [Far("one", -1)], [Upright(AB, AD)]), Next(None, (None,)))
        self.assertEqual(next_measure(PLAIN, [Far("one", -1), Far("one", 20), Foot("one", 3, 0), Foot("one", 3, 1)], [Upright(AB, AD)]),
                         Next(2, (None, 1, 0, 0)))
        waiting = Lengths(AB, RIGHT)
        self.assertEqual(next_measure(PLAIN, [Foot("one", 3, 0)], [waiting, waiting, Upright(AB, AD)]).counts, (2,))

    def test_order_of_errors(self):
        lost, away = Upright(Step.between("one.x", "one.w"), AB), Far("six", 1)
        deeper = Deeper("one.z", "one.y")
        for value in (None, PLAIN.book, Odd()):
            self.bad(BadStanding, "standing", sorted_offers, value, None)
            self.bad(BadStanding, "standing", next_measure, value, None, None)
        for standing in (PLAIN, JOINED, *IMPOSSIBLE.values()):
            for value in (None, 1, "far one | 1", {}, lost, [None], [lost, AB], [deeper], [lost, Odd()]):
                self.bad(BadFact, "offered", sorted_offers, standing, value)
                self.bad(BadFact, "offered", next_measure, standing, value, None)
            for fact in (away, Foot("one", 1, 1), Tie("one.a", "two.a")):
                self.bad(BadFact, "offered", sorted_offers, standing, [lost, fact])
            for value in (None, 1, "deeper", {}, lost, [None], [lost, AB], [deeper, away], [deeper, Odd()], [Foot("one", 1, 1)]):
                self.bad(BadSaying, "sayings", next_measure, standing, [lost], value)
            self.raised(NoLabel, {"name": "one.w"}, sorted_offers, standing, [Null(Step({"one.a": 1, "one.b": -1})), lost] * 8)
            self.raised(NoPicture, {"name": "six"}, sorted_offers, standing, [SameWay(AB, Step.up_of("six")), lost])
            self.raised(NoLabel, {"name": "one.w"}, next_measure, standing, [lost, away], [deeper])
            self.raised(NoPicture, {"name": "six"}, next_measure, standing, [away, lost] * 8, [deeper] * 13)
            self.raised(NoLabel, {"name": "one.z"}, next_measure, standing, [Far("one", 1)] * 13, [Deeper("one.a", "one.b"), deeper])
            self.raised(NoPicture, {"name": "six"}, next_measure, standing, [Far("one", 1)] * 13,
                        [InPlane(AB, AD, Step.up_of("six")), deeper])
        self.raised(Twice, {"name": "one.b"}, next_measure, JOINED, [Far("one", 1), Tie("one.b", "two.c")] * 7,
                    [Deeper("one.a", "one.b")] * 13)
        full = stand(Book([ONE], [Null(TILE)] * 60))
        self.raised(TooMany, {"what": "facts", "most": 60}, next_measure, full, [Far("one", 1)], [])
        for word, standing in IMPOSSIBLE.items():
            self.raised(Impossible, {"word": word}, sorted_offers, standing, [Null(Step({"one.a": 1, "one.b": -1}))] * 13)
            self.raised(Impossible, {"word": word}, next_measure, standing, [Far("one", 1)] * 13, [Deeper("one.a", "one.b")] * 13)
            self.raised(Impossible, {"word": word}, sorted_offers, standing, [])
            self.raised(Impossible, {"word": word}, next_measure, standing, [], [])
        many, asked = [Null(TILE)] * 13, [Deeper("one.a", "one.b")] * 13
        self.raised(TooMany, {"what": "offered", "most": 12}, sorted_offers, PLAIN, many)
        self.raised(TooMany, {"what": "offered", "most": 12}, next_measure, PLAIN, many, asked)
        self.raised(TooMany, {"what": "sayings", "most": 12}, next_measure, PLAIN, many[:12], asked)
        self.assertEqual(len(sorted_offers(PLAIN, many[:12]).follows), 12)
        self.assertEqual(next_measure(PLAIN, many[:12], asked[:12]).counts, (0,) * 12)


if __name__ == "__main__":
    unittest.main()
