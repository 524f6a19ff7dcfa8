"""Clashes: parts of books, facts that clash beside all choices, lines that leave no eye beside all choices."""

import random
import unittest
from itertools import combinations

from alleyes.books import Book
from alleyes.bowl import NoEye, Sees, some_eye
from alleyes.check_choice import shows_against, shows_clash
from alleyes.clashes import Against, Clash, clash, fewest_lines, part_of
from alleyes.errors import BadBook, BadFlat, BadNumber, NoFact, TooMany, Twice
from alleyes.facts import Far, Foot, Null, SameWay, Upright
from alleyes.flats import EyeRow, Flat, circle_row
from alleyes.papers import Denial
from alleyes.pictures import Picture
from alleyes.ratios import Ratio
from alleyes.standing import Possible, stand
from tests.chosen import bent_book, full_book, mirrored_book
from tests.right_choice import part, right_against, right_clash, subsets
from tests.right_flats import is_bar
from tests.support import NO_INTEGERS, NO_LISTS, Checks, Odd
from tests.test_standing import AB, AD, AGAIN, CORNER, EDGES, IMPOSSIBLE, ONE, TIES, TILE, between

BENT = Book([ONE], [Null(TILE), Foot("one", 3, 3), Far("one", 18)])


def all_clashes(book):
    """Each set of facts whose part is impossible, and possible with any one of them less."""
    found = []
    for chosen in subsets(len(book.facts)):
        if not any(set(other) <= set(chosen) for other in found) and not part(book, chosen).is_possible:
            found.append(chosen)
    return found


class ClashesTest(unittest.TestCase, Checks):
    def test_example(self):
        found = clash(BENT)
        self.assertEqual([found.numbers, found.paper.word, len(found.spared), clash(part_of(BENT, [0, 2]))], [(1, 2), "noeye", 2, None])
        lines = [EyeRow(0, 0, 1, -18), EyeRow(0, 1, 0, -3), EyeRow(0, 1, 0, 0)]
        self.assertEqual(fewest_lines(Flat(lines)).numbers, (1, 2))

    def test_papers(self):
        one, other = Clash(numbers=[1, 2], paper=None, spared=[]), Against(numbers=[3], paper=1)
        self.assertEqual([one.word, one.numbers, one.paper, one.spared, bool(one)], ["clash", (1, 2), None, (), False])
        self.assertEqual([other.word, other.numbers, other.paper, bool(other)], ["against", (3,), 1, False])
        self.assertTrue(isinstance(one, Denial) and isinstance(other, Denial))

    def test_part_of(self):
        self.assertEqual(part_of(book=BENT, numbers=[2, 0]), Book([ONE], [BENT.facts[0], BENT.facts[2]]))
        self.assertEqual([part_of(BENT, ()), part_of(BENT, (0, 1, 2))], [Book([ONE]), BENT])
        two = Book([CORNER, AGAIN], (*EDGES, *TIES))
        self.assertEqual(part_of(two, [7, 1, 4]), Book([CORNER, AGAIN], [EDGES[1], TIES[0], TIES[3]]))
        for value in (None, Odd(), "one", Picture("one", {"a": (0, 0)})):
            self.bad(BadBook, "book", part_of, value, None)
        for value in NO_LISTS:
            self.bad(BadNumber, "numbers", part_of, BENT, value)
        for value in (*NO_INTEGERS, -1, 3, 10 ** 30):
            self.raised(NoFact, {"number": value}, part_of, BENT, [0, 0, value, None])
        self.raised(Twice, {"name": 0}, part_of, BENT, [1, 0, 2, 0, 1])
        self.raised(Twice, {"name": 2}, part_of, BENT, (2, 2))

    def test_clashes(self):
        """A clash is one of all those that there are."""
        source, words = random.Random(1), {}
        for number in range(16):
            book = mirrored_book(source) if number % 5 == 0 else bent_book(source, ("one",) if number & 1 else ("one", "two"),
                    source.randint(1, 3), 8)
            book = Book(book.pictures, book.facts[:9])
            found = clash(book=book)
            if stand(book).is_possible:
                self.assertIsNone(found)
                words["possible"] = True
                continue
            self.assertIs(type(found), Clash)
            self.assertTrue(right_clash(book, found))
            self.assertIs(shows_clash(book, found), True)
            self.assertEqual(list(found.numbers), sorted(found.numbers))
            self.assertEqual([type(paper) for paper in found.spared], [Possible] * len(found.numbers))
            if number < 10:
                self.assertIn(found.numbers, all_clashes(book))
            words[found.paper.word] = True
            self.assertEqual(clash(Book(list(book.pictures), book.facts)), found)
        self.assertEqual(sorted(words), ["neverone", "noeye", "noscene", "possible"])

    def test_impossible_of_each_kind(self):
        for word, standing in IMPOSSIBLE.items():
            found = clash(standing.book)
            self.assertEqual(found.paper.word, word)
            self.assertTrue(right_clash(standing.book, found))
        self.assertEqual([clash(IMPOSSIBLE["noscene"].book).numbers, clash(IMPOSSIBLE["neverone"].book).numbers],
                         [(1,), (0, 1, 2, 3, 4, 5, 6, 7)])
        alone = Book([ONE], [SameWay(AB, AD), Far("one", -1)])
        self.assertEqual([clash(alone).numbers, len(clash(alone).spared)], [(1,), 1])

    def test_no_eye_and_four_facts(self):
        """Of a clash without an eye four facts at most give eye rows."""
        source = random.Random(2)
        for _ in range(12):
            book = bent_book(source, ("one", "two"), 5, 17)
            found = clash(book)
            if found is not None and found.paper.word == "noeye":
                standing = part(book, found.numbers)
                self.assertLessEqual(len({use for use, _ in standing.barred[0].eye_sources if not isinstance(use, str)}), 4)

    def test_many_facts(self):
        """There is no bound on how many facts a book has."""
        book = full_book([ONE], [Null(TILE), Upright(AB, AD), Foot("one", 3, 3)], 59)
        self.assertIsNone(clash(book))
        found = clash(book.with_fact(Far("one", 18)))
        self.assertEqual([len(found.numbers), found.numbers[-1], found.paper.word], [2, 59, "noeye"])
        for value in (None, Odd(), stand(BENT), [ONE]):
            self.bad(BadBook, "book", clash, value)

    def test_fewest_lines(self):
        """The fewest lines that leave no eye, of equally few the first as tuples are ordered."""
        source, sizes = random.Random(3), {}
        for _ in range(300):
            lines = [EyeRow(*[source.randint(-2, 2) for _ in range(4)]) for _ in range(source.randint(0, 6))]
            if source.random() < 0.5:
                # Lines that hold at some eye, and one more.
                a, b = source.randint(-2, 2), source.randint(-2, 2)
                s = a * a + b * b + source.randint(0, 1)
                lines = [EyeRow(p, q, r, -(p * a + q * b + r * s)) for p, q,
                         r in [[source.randint(-2, 2) for _ in range(3)] for _ in range(6)]]
                lines += [EyeRow(*[source.randint(-2, 2) for _ in range(4)])]
            flat = Flat(lines)
            found = fewest_lines(flat=flat)
            barring = [chosen for chosen in subsets(len(lines)) if type(some_eye(Flat([lines[number] for number in chosen]))) is NoEye]
            if not barring:
                self.assertIsNone(found)
                self.assertIs(type(some_eye(flat)), Sees)
                continue
            self.assertEqual([type(found), found.numbers], [Against, barring[0]])
            self.assertTrue(is_bar([lines[number] for number in found.numbers], found.paper.parts))
            self.assertTrue(right_against((), lines, found) and shows_against(flat, found))
            self.assertEqual(fewest_lines(Flat(tuple(lines))), found)
            sizes[len(found.numbers)] = True
        self.assertTrue({1, 2, 3} <= set(sizes))

    def test_four_lines(self):
        """Planes of which each three meet over the bowl, but not all four."""
        low = [EyeRow(1, 0, 0, 0), EyeRow(0, 1, 0, 0), EyeRow(0, 0, 1, -4), EyeRow(1, 1, 1, -5)]
        found = fewest_lines(Flat(low))
        self.assertEqual([found.numbers, found.paper.a], [(0, 1, 2, 3), None])
        self.assertEqual(fewest_lines(Flat([EyeRow(0, 0, 0, 0), *low, *low])).numbers, (1, 2, 3, 4))
        for chosen in combinations(low, 3):
            self.assertIsNone(fewest_lines(Flat(chosen)))

    def test_one_line(self):
        for line, wanted in ((EyeRow(0, 0, 0, 0), None), (EyeRow(0, 0, 0, 1), (0,)), (circle_row(1, 2, 0), (0,)),
                             (circle_row(1, 2, Ratio(-1, 9)), None)):
            found = fewest_lines(Flat([line]))
            self.assertEqual(found and found.numbers or (found.numbers if found is not None else None), wanted)
        self.assertIsNone(fewest_lines(Flat([])))

    def test_many_lines(self):
        line = EyeRow(0, 0, 1, -9)
        for lines in ([line] * 17, [EyeRow(0, 0, 0, 1)] * 17):
            self.raised(TooMany, {"what": "lines", "most": 16}, fewest_lines, Flat(lines))
        self.assertIsNone(fewest_lines(Flat([line] * 16)))
        self.assertEqual(fewest_lines(Flat([line] * 15 + [EyeRow(0, 0, 2, -17)])).numbers, (0, 15))
        for value in (None, Odd(), [line], line):
            self.bad(BadFlat, "flat", fewest_lines, value)

    def test_upright_of_waiting(self):
        """What waits is in no clash."""
        book = Book([ONE], [Upright(AB, between("a", "c")), *BENT.facts])
        self.assertEqual(clash(book).numbers, (2, 3))


if __name__ == "__main__":
    unittest.main()
