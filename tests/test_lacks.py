"""Lacks: ranks, lines and eyes beside sums of their own, and what each fact lowers."""

import random
import unittest

from alleyes.books import Book
from alleyes.errors import BadFact, BadStanding, Impossible, NoLabel, NoPicture, TooMany, Twice
from alleyes.facts import Far, Foot, Lengths, Null, Tie, Upright
from alleyes.lacks import Lacks, lacking, what_lowers
from alleyes.papers import Paper
from alleyes.standing import stand
from alleyes.steps import Step
from alleyes.words import word_of
from tests.linked import linked_world, rank
from tests.painting import cube_world, random_fact, ratio_of, true_facts
from tests.right_flats import four, is_eye
from tests.right_links import right_lacks
from tests.support import Checks, Odd, value_of
from tests.test_links import LOOSELY, OA, OB, OC
from tests.test_seconds import NARROWED, book_of
from tests.test_standing import AGAIN, CORNER, EDGES, IMPOSSIBLE, JOINED, ONE, TILE, TIES, between


class LacksTest(unittest.TestCase, Checks):
    def test_example(self):
        self.assertEqual([[(lack.home, lack.number) for lack in lacking(JOINED)], [lack.number for lack in lacking(LOOSELY)],
                          what_lowers(LOOSELY, TIES[:1])], [[("one", 1)], [3, 3], (("used", 5),)])
        self.assertEqual(what_lowers(JOINED, [Lengths(OA, OC), Upright(OA, OB), Upright(OA, OC), Lengths(OA, Step.up_of("one"))]),
                         (("used", 1), ("used", 0), ("bars", 0), ("waits", 0)))

    def test_paper(self):
        lacks = Lacks(home="one", number=2, leads=[3], eyes=[[0, 0, 1]])
        self.assertEqual([lacks.word, lacks.home, lacks.number, lacks.leads, lacks.eyes, bool(lacks)],
                         ["lacks", "one", 2, (3,), ((0, 0, 1),), True])
        self.assertIsInstance(lacks, Paper)

    def test_lacking(self):
        """The number is 3 less the rank; the leads have it, the eyes are of the flat and lie apart."""
        source, seen = random.Random(1), {}
        for number in range(24):
            names = source.choice([("one",), ("one", "two"), ("two", "one", "three")])
            world = cube_world(source, names)
            book = book_of(world)
            if number & 1:
                book = Book(book.pictures, true_facts(source, world, source.randint(2, 9)))
            for fact in true_facts(source, world, 4):
                book = book.with_fact(fact)
            standing = stand(book)
            found = lacking(standing=standing)
            self.assertEqual([type(found), [lack.home for lack in found]], [tuple, [heap.home for heap in standing.heaps]])
            for lack, heap in zip(found, standing.heaps):
                rows = [four(line)[:3] for line in heap.flat.lines]
                self.assertEqual([type(lack), lack.number], [Lacks, 3 - rank(rows)])
                self.assertEqual([len(lack.leads), rank([rows[lead] for lead in lack.leads])], [3 - lack.number] * 2)
                self.assertEqual(sorted(set(lack.leads)), sorted(lack.leads))
                self.assertTrue(all(type(lead) is int for lead in lack.leads))
                self.assertTrue(len(lack.eyes) == lack.number + 1 and all(is_eye(heap.flat, eye) for eye in lack.eyes))
                first = [value_of(part) for part in lack.eyes[0]]
                self.assertEqual(rank([[value_of(part) - own for part, own in zip(eye, first)] for eye in lack.eyes[1:]]), lack.number)
                for eye in lack.eyes:
                    self.all_ratios(eye)
                self.assertTrue(right_lacks(standing, lack))
                seen[lack.number] = True
            self.assertEqual(lacking(stand(book)), found)
        self.assertEqual(sorted(seen), [0, 1, 2, 3])

    def test_nothing_lacking(self):
        lack, = lacking(NARROWED)
        self.assertEqual([lack.number, len(lack.leads), len(lack.eyes)], [0, 3, 1])
        fixed = stand(Book([CORNER], [Foot("one", 1, 1), Foot("one", 1, 1), Far("one", 7)]))
        self.assertEqual(lacking(fixed)[0].parts, ("one", 0, (0, 1, 4), ((1, 1, 7),)))
        self.assertEqual(what_lowers(fixed, [Far("one", 7), Far("one", 8), Foot("one", 1, 0)]), (("used", 0), ("bars", 0), ("bars", 0)))
        bare = stand(Book([CORNER]))
        self.assertEqual([(lack.number, lack.leads, len(lack.eyes)) for lack in lacking(bare)], [(3, (), 4)])

    def test_what_lowers(self):
        """Each fact is put in by itself: beside the ranks of a book with it."""
        source, seen = random.Random(2), {}
        for number in range(8):
            world, standing = linked_world(source, ("one", "two"), straight=source.random() < 0.5)
            book = standing.book
            if number & 1:
                book = Book(book.pictures, [fact for fact in book.facts if type(fact) is not Tie or source.random() < 0.4])
                standing = stand(book)
            facts = [random_fact(source, world) for _ in range(9)] + [Tie("one.a", "two.a"), Far("one", 12), Foot("two", 0, 0)]
            facts = [fact for fact in facts if type(fact) is not Tie or fact not in book.facts]
            found = what_lowers(standing=standing, facts=facts)
            self.assertEqual([type(found), len(found)], [tuple, len(facts)])
            for fact, pair in zip(facts, found):
                newer = stand(Book(book.pictures, [*book.facts, fact]))
                if not newer.is_possible:
                    wanted = ("bars", 0)
                elif len(book.facts) in newer.waiting:
                    wanted = ("waits", 0)
                else:
                    sums = [sum(3 - rank([four(line)[:3] for line in heap.flat.lines]) for heap in here.heaps) for here in (standing,
                            newer)]
                    wanted = ("used", sums[0] - sums[1])
                self.assertEqual(pair, wanted)
                seen[pair] = True
        for pair in (("bars", 0), ("waits", 0), ("used", 0), ("used", 1), ("used", 2)):
            self.assertIn(pair, seen)

    def test_words_and_numbers(self):
        """A right angle lowers the number by 1 if its word is both, by 0 if always, and bars if never."""
        source, seen = random.Random(3), {}
        for number in range(8):
            world, standing = linked_world(source, ("one", "two") if number & 1 else ("one",))
            facts = [Upright(between(*pair), between(*other)) for pair in ("ab", "ad", "ag") for other in ("ac", "ae", "af", "bg")]
            facts = facts[number % 3::3] + [Lengths(between("a", "b"), between("a", "e"), 4, ratio_of(source.randint(1, 9))),
                                        Lengths(between("a", "b"), Step.right_of("one"))]
            for fact, pair in zip(facts, what_lowers(standing, facts)):
                word = word_of(standing, fact).word
                self.assertEqual(pair, {"both": ("used", 1), "always": ("used", 0), "never": ("bars", 0), "waits": ("waits", 0)}[word])
                seen[word] = True
        self.assertTrue({"both", "never", "waits"} <= set(seen))
        plain = stand(Book([ONE], [Null(TILE)]))
        self.assertEqual([lacking(stand(Book([ONE, AGAIN], EDGES[2:])))[at].number for at in range(2)], [3, 3])
        self.assertEqual(what_lowers(plain, []), ())

    def test_order_of_told(self):
        """In whatever order all is told, the same pictures are of one heap, and lack the same."""
        source = random.Random(4)
        for _ in range(5):
            world, standing = linked_world(source, ("one", "two", "three"))
            facts = list(standing.book.facts)
            if source.random() < 0.5:
                facts = source.sample(facts, len(facts) - 3)
            elder = stand(Book(standing.book.pictures, facts))
            told = {tuple(sorted(heap.names)): lack.number for heap, lack in zip(elder.heaps, lacking(elder))}
            source.shuffle(facts)
            pictures = list(standing.book.pictures)
            source.shuffle(pictures)
            newer = stand(Book(pictures, facts))
            self.assertEqual({tuple(sorted(heap.names)): lack.number for heap, lack in zip(newer.heaps, lacking(newer))}, told)

    def test_order_of_errors(self):
        lost = Upright(Step.between("one.x", "one.w"), OA)
        for value in (None, LOOSELY.book, "one", Odd()):
            self.bad(BadStanding, "standing", lacking, value)
            self.bad(BadStanding, "standing", what_lowers, value, None)
        for standing in (JOINED, LOOSELY, *IMPOSSIBLE.values()):
            for value in (None, Far("one", 1), "one", {}, [lost, None], [lost, OA], (Odd(),)):
                self.bad(BadFact, "facts", what_lowers, standing, value)
            self.raised(NoLabel, {"name": "one.w"}, what_lowers, standing, [Far("one", 1), lost, Far("six", 1)])
            self.raised(NoPicture, {"name": "six"}, what_lowers, standing, [Far("six", 1), lost] * 20)
        full = stand(Book([CORNER], [Far("one", 9)] * 60))
        self.raised(TooMany, {"what": "facts", "most": 60}, what_lowers, full, [Far("one", 9)] * 13)
        self.raised(Twice, {"name": "one.b"}, what_lowers, JOINED, [Far("one", 1), Tie("one.b", "two.c")] * 7)
        for word, standing in IMPOSSIBLE.items():
            self.raised(Impossible, {"word": word}, lacking, standing)
            self.raised(Impossible, {"word": word}, what_lowers, standing, [Far("one", 1)] * 13)
            self.raised(Impossible, {"word": word}, what_lowers, standing, [])
        self.raised(TooMany, {"what": "facts", "most": 12}, what_lowers, JOINED, [Far("one", 9)] * 13)
        self.assertEqual(len(what_lowers(JOINED, [Far("one", 9)] * 12)), 12)


if __name__ == "__main__":
    unittest.main()
