"""Strikes: the fewest facts that leave a book possible when struck, beside all choices."""

import random
import unittest

from alleyes.books import Book
from alleyes.check_choice import shows_strikes
from alleyes.errors import BadBook, BadNumber, TooMany
from alleyes.facts import Far, Foot, Null, Upright
from alleyes.papers import Denial, Paper
from alleyes.standing import Possible, stand
from alleyes.strikes import NoStrike, Strikes, choices, strikes
from tests.chosen import bent_book, full_book, mirrored_book
from tests.right_choice import part, right_strikes, subsets
from tests.support import NO_INTEGERS, Checks, Odd
from tests.test_clashes import BENT
from tests.test_standing import AB, AD, IMPOSSIBLE, ONE, TILE


def fewest(book, most):
    """The first of the fewest facts that can be struck; None if none are, or they are more."""
    size = len(book.facts)
    for chosen in subsets(size):
        if len(chosen) <= most and part(book, set(range(size)) - set(chosen)).is_possible:
            return chosen
    return None


class StrikesTest(unittest.TestCase, Checks):
    def test_example(self):
        alone = Book([ONE], [Null(TILE)])
        self.assertEqual([strikes(BENT, 2).numbers, strikes(BENT, 0).word, strikes(alone, 1).parts[::2]], [(1,), "nostrike", ((), ())])

    def test_papers(self):
        paper, denial = Strikes(numbers=[1], paper=None, clashes=[[[1, 2], None]]), NoStrike(most=1, clashes=[])
        self.assertEqual([paper.word, paper.numbers, paper.paper, paper.clashes, bool(paper)],
                         ["strikes", (1,), None, (((1, 2), None),), True])
        self.assertEqual([denial.word, denial.most, denial.clashes, bool(denial)], ["nostrike", 1, (), False])
        self.assertTrue(isinstance(paper, Paper) and isinstance(denial, Denial))

    def test_strikes(self):
        """Beside all choices of facts, for each bound."""
        source, seen = random.Random(1), {}
        for number in range(10):
            book = mirrored_book(source) if number % 8 == 0 else bent_book(source, ("one",) if number & 1 else ("one", "two"),
                    source.randint(1, 4), 8)
            for most in range(3):
                found = strikes(book=book, most=most)
                wanted = fewest(book, most)
                self.assertTrue(right_strikes(book, most, found))
                self.assertIs(shows_strikes(book, most, found), True)
                if wanted is None:
                    self.assertEqual([type(found), found.most], [NoStrike, most])
                else:
                    self.assertEqual([type(found), found.numbers, type(found.paper)], [Strikes, wanted, Possible])
                self.assertEqual(strikes(Book(book.pictures, list(book.facts)), most), found)
                seen[found.word, most if wanted is None else len(wanted)] = True
        for key in (("strikes", 0), ("strikes", 1), ("strikes", 2), ("nostrike", 0), ("nostrike", 1), ("nostrike", 2)):
            self.assertIn(key, seen)

    def test_clashes(self):
        """No fewer facts have one of each clash; a possible book has none."""
        two = Book([ONE], [Foot("one", 1, 1), Foot("one", 2, 2), Far("one", 100), Far("one", 101)])
        found = strikes(two, 2)
        self.assertEqual([found.numbers, [word.word for _, word in found.clashes]], [(0, 2), ["noeye", "noeye"]])
        for numbers, paper in found.clashes:
            self.assertEqual(part(two, numbers).paper, paper)
        self.assertEqual(set(found.clashes[0][0]) & set(found.clashes[1][0]), set())
        denial = strikes(two, 1)
        self.assertEqual([denial.most, len(denial.clashes)], [1, 2])
        three = Book([ONE], [Foot("one", 1, 1), Foot("one", 2, 2), Foot("one", 3, 3), Foot("one", 4, 4)])
        self.assertEqual([strikes(three, 2).word, strikes(three, 2).most], ["nostrike", 2])
        self.assertEqual(strikes(Book([ONE]), 0).parts[::2], ((), ()))
        self.assertEqual(strikes(IMPOSSIBLE["neverone"].book, 1).numbers, (0,))
        self.assertEqual([strikes(IMPOSSIBLE[word].book, 1).numbers for word in ("noscene", "noeye")], [(1,), (1,)])
        self.assertEqual(strikes(Book([ONE], [Far("one", -1)]), 2).numbers, (0,))

    def test_choices(self):
        self.assertEqual([choices(3, many) for many in range(4)], [[()], [(0,), (1,), (2,)], [(0, 1), (0, 2), (1, 2)], [(0, 1, 2)]])
        self.assertEqual([choices(0, 0), choices(0, 1), choices(1, 2)], [[()], [], []])

    def test_most_facts(self):
        book = full_book([ONE], [Null(TILE), Upright(AB, AD), Foot("one", 3, 3), Far("one", 27)], 12)
        self.assertEqual(strikes(book, 2).numbers, ())
        self.assertEqual(strikes(Book([ONE], [*book.facts[:11], Far("one", 18)]), 1).numbers, (11,))
        for most in range(3):
            self.raised(TooMany, {"what": "facts", "most": 12}, strikes, book.with_fact(Null(TILE)), most)

    def test_errors(self):
        for value in (None, Odd(), stand(BENT), "one : a 0 0"):
            self.bad(BadBook, "book", strikes, value, None)
        for value in (*NO_INTEGERS, -1, 3, 10 ** 20):
            self.bad(BadNumber, "most", strikes, full_book([ONE], [Null(TILE)], 13), value)


if __name__ == "__main__":
    unittest.main()
