"""Books: pictures and facts, pairs that are tied, texts."""

import unittest

from alleyes.books import Book
from alleyes.errors import BadBook, BadFact, NoFact, NoLabel, NoPicture, TooMany, Twice
from alleyes.facts import Along, Far, Foot, InPlane, Lengths, Null, SameWay, Tie, Upright
from alleyes.pictures import Picture
from alleyes.rows import Row
from alleyes.steps import Step
from tests.support import NO_INTEGERS, NO_LISTS, NO_NAMES, Checks, Odd


def square(name, points="abcd"):
    places = [(0, 0), (6, 0), (4, 2), (2, 2), (1, 5), (7, 3)]
    return Picture(name, dict(zip(points, places)))


ONE, TWO, ZWO = square("one"), square("two", "abpq"), square("zwo", "apx")
AB, PQ = Step.between("one.a", "one.b"), Step.between("two.p", "two.q")
FACTS = (Along(AB, Step.right_of("two")), Tie("one.a", "two.b"), Foot("two", 1, 2), Far("one", 3))
BOOK = Book([ONE, TWO], FACTS)
TEXT = ("one : a 0 0 / b 6 0 / c 4 2 / d 2 2 ; two : a 0 0 / b 6 0 / p 4 2 / q 2 2 ; along one.a -1 one.b 1 | right two"
        " ; tie one.a | two.b ; foot two | 1 | 2 ; far one | 3")


class BooksTest(unittest.TestCase, Checks):
    def test_attributes(self):
        book = Book(pictures=[TWO, ONE], facts=list(FACTS))
        self.assertEqual([book.pictures, book.facts, book.names], [(TWO, ONE), FACTS, ("two", "one")])
        self.assertEqual(book.labels, ("one.a", "one.b", "one.c", "one.d", "two.a", "two.b", "two.p", "two.q"))
        self.assertEqual([Book([ONE]).facts, Book((ONE,), ()).pictures], [(), (ONE,)])
        for name in ("one", "two"):
            self.assertEqual(book.picture_of(name).name, name)

    def test_what_is_passed_is_copied(self):
        pictures, facts = [ONE, TWO], list(FACTS)
        book = Book(pictures, facts)
        pictures.pop()
        facts.clear()
        self.assertEqual([len(book.pictures), len(book.facts)], [2, 4])

    def test_wrong_parameters(self):
        for value in (*NO_LISTS, [], (), [None], [ONE, "one"], ONE, [FACTS[0]]):
            self.bad(BadBook, "pictures", Book, value, None)
        for value in (*NO_LISTS, [None], [FACTS[0], "far one | 3"], FACTS[0], [ONE]):
            self.bad(BadBook, "facts", Book, [ONE, ONE], value)

    def test_order_of_errors(self):
        lost = Far("six", 3)
        self.raised(Twice, {"name": "two"}, Book, [TWO, ONE, TWO, ONE], [lost])
        names = ["aa", "bb", "cc", "dd", "ee"]
        self.raised(NoPicture, {"name": "six"}, Book, [square(name) for name in names], [lost])
        self.raised(TooMany, {"what": "pictures", "most": 4}, Book, [square(name) for name in names], [Far("aa", 3)] * 61)
        self.raised(TooMany, {"what": "facts", "most": 60}, Book, [ONE], [Far("one", 3)] * 61)
        self.assertEqual(len(Book([square(name) for name in names[:4]], [Far("aa", 3)] * 60).facts), 60)

    def test_unknown(self):
        ax, zz = Step({"one.a": -1, "one.x": 1}), Step({"one.y": 1, "one.a": 1, "one.x": -2})
        for fact, label in ((Null(ax), "one.x"), (Null(zz), "one.x"), (Along(AB, ax), "one.x"), (SameWay(ax, Null(zz).step), "one.x"),
                            (InPlane(AB, AB, zz), "one.x"), (Upright(zz, ax), "one.x"), (Lengths(ax, AB), "one.x"),
                            (Tie("one.e", "two.z"), "one.e"), (Tie("one.a", "two.z"), "two.z"), (Tie("six.a", "one.a"), "six.a"),
                            (Null(Step.between("six.b", "six.a")), "six.a"), (Along(ax, Step.up_of("six")), "one.x")):
            self.raised(NoLabel, {"name": label}, Book, [ONE, TWO], [FACTS[0], fact])
        for fact in (Along(AB, Step.right_of("six")), Upright(Step.up_of("six"), ax), Lengths(AB, Step.up_of("six")),
                     InPlane(AB, Step.right_of("six"), ax), Foot("six", 0, 0), Far("six", 0)):
            self.raised(NoPicture, {"name": "six"}, Book, [ONE, TWO], [fact, Null(ax)])

    def test_points(self):
        for ties, label in (([Tie("one.a", "two.a"), Tie("two.a", "one.b")], "one.a"),
                            ([Tie("one.d", "two.p"), Tie("one.c", "two.q"), Tie("one.c", "two.p")], "one.c"),
                            ([Tie("two.q", "one.d"), Tie("two.a", "one.d")], "one.d"),
                            ([Tie("one.a", "two.a"), Tie("two.a", "zwo.p"), Tie("zwo.p", "one.b")], "one.a"),
                            ([Tie("one.d", "two.p"), Tie("two.p", "zwo.x"), Tie("zwo.x", "two.q")], "one.d")):
            self.raised(Twice, {"name": label}, Book, [ZWO, TWO, ONE], [FACTS[3], *ties])
        book = Book([ONE, TWO, ZWO], [Tie("one.a", "two.b"), Tie("two.b", "one.a"), Tie("zwo.x", "two.b"), Tie("one.d", "zwo.a")])
        self.assertEqual([book.pairs("one", "two"), book.pairs("two", "one")], [(("one.a", "two.b"),), (("two.b", "one.a"),)])
        self.assertEqual([book.pairs("one", "zwo"), book.pairs("zwo", "one"), book.pairs("two", "zwo"), book.pairs("one", "one")],
                         [(("one.a", "zwo.x"), ("one.d", "zwo.a")), (("zwo.a", "one.d"), ("zwo.x", "one.a")),
                          (("two.b", "zwo.x"),), ()])
        for value in (*NO_NAMES, "six", "one.a"):
            self.raised(NoPicture, {"name": value}, book.pairs, value, None)
            self.raised(NoPicture, {"name": value}, book.pairs, "one", value)
            self.raised(NoPicture, {"name": value}, book.picture_of, value)

    def test_with_and_without(self):
        self.assertEqual(BOOK.with_fact(Null(PQ)), Book([ONE, TWO], (*FACTS, Null(PQ))))
        self.assertEqual(BOOK.without(1), Book([ONE, TWO], (FACTS[0], *FACTS[2:])))
        self.assertEqual([len(BOOK.facts), BOOK.without(0).facts, BOOK.without(number=3).facts], [4, FACTS[1:], FACTS[:3]])
        for value in (None, "far one | 3", ONE, AB, [FACTS[0]], Odd()):
            self.bad(BadFact, "fact", BOOK.with_fact, value)
        self.raised(NoPicture, {"name": "six"}, BOOK.with_fact, Far("six", 1))
        self.raised(Twice, {"name": "one.a"}, BOOK.with_fact, Tie("two.b", "one.c"))
        self.raised(TooMany, {"what": "facts", "most": 60}, Book([ONE], [FACTS[3]] * 60).with_fact, FACTS[3])
        for value in (*NO_INTEGERS, -1, 4, 10 ** 30):
            self.raised(NoFact, {"number": value}, BOOK.without, value)

    def test_joined(self):
        more = Book([TWO, ZWO], [Far("zwo", 2), FACTS[2]])
        self.assertEqual(BOOK.joined(more), Book([ONE, TWO, ZWO], (*FACTS, Far("zwo", 2), FACTS[2])))
        self.assertEqual(BOOK.joined(BOOK), Book([ONE, TWO], (*FACTS, *FACTS)))
        for value in (None, ONE, FACTS, str(BOOK), Odd()):
            self.bad(BadBook, "other", BOOK.joined, value)
        self.raised(Twice, {"name": "two"}, BOOK.joined, Book([ZWO, square("two"), square("one", "abce")]))
        self.raised(Twice, {"name": "one.a"}, BOOK.joined, Book([ONE, TWO], [Tie("one.c", "two.b")]))
        self.raised(TooMany, {"what": "pictures", "most": 4}, BOOK.joined, Book([square(name) for name in ("aa", "bb", "cc")]))
        self.raised(TooMany, {"what": "facts", "most": 60}, BOOK.joined, Book([ONE], [FACTS[3]] * 57))

    def test_equal(self):
        self.assertTrue(BOOK == Book((ONE, TWO), list(FACTS)) and not BOOK != Book((ONE, TWO), FACTS))
        for other in (Book([TWO, ONE], FACTS), Book([ONE, TWO], FACTS[::-1]), Book([ONE, TWO]), Book([ONE, TWO, ZWO], FACTS),
                      TEXT, None, (ONE, TWO), Row({})):
            self.assertTrue(BOOK != other and not BOOK == other)

    def test_texts(self):
        self.assertEqual([str(BOOK), str(Book([ONE])), Book.read(TEXT), Book.read(str(ONE))], [TEXT, str(ONE), BOOK, Book([ONE])])
        self.bad_words(Book.read, TEXT)
        words = TEXT.split(" ")
        right = [many for many in range(1, len(words)) if words[many] == ";" or words[many] == "/"]
        self.bad_beginnings(Book.read, TEXT, (words.index("-1") + 1,), right)

    def test_pictures_named_like_facts(self):
        null, tie, far = square("null"), square("tie"), square("far", "xy")
        book = Book([null, far, tie], [Far("far", 2), Tie("tie.a", "null.a"), Foot("tie", 1, 1), Null(Step.between("null.a", "null.b"))])
        text = str(book)
        self.assertEqual([text[:8], Book.read(text)], ["null : a", book])
        self.bad_words(Book.read, text)
        start = "null : a 0 0 ; tie : b 0 0"
        for rest, word in ((" ; null : a 0 0", 13), (" ; tie : a 0 0", 13), (" ; two : a 0 0 ; two : a 0 0", 18), (" ; far : a 0 0 ; far", 19),
                           (" ; tie", 13), (" ; tie null.a", 14), (" ; tie null.a | tie.b ; far : a 0 0", 18),
                           (" ; tie null.a | tie.b ; new : a 0 0", 17), (" ; null", 13), (" ; null 3", 13),
                           (" ; aa : a 0 0 ; bb : a 0 0 ; cc : a 0 0", 24), (" ; aa : a 0 0 ; bb : a 0 0 ; far : a 0 0", 25),
                           (" ; aa : a 0 0 ; bb : a 0 0 ; far aa | 2 ;", 29), (" ; Aa : a 0 0", 12), (" ;", 12), (" ; ", 12)):
            self.bad_text(word, Book.read, start + rest)
        for text, word in (("null one.a 1", 1), ("", 0), ("one", 1), ("one ;", 1), ("; one : a 0 0", 0), ("one : a 0 0 ; ; far one | 2", 6),
                           ("one : a 0 0 / ; far one | 2", 6), ("one : a 0 0 far one | 2", 5)):
            self.bad_text(word, Book.read, text)

    def test_words_that_the_book_refuses(self):
        start = "one : a 0 0 / b 6 0 ; two : a 0 0 / p 4 2 ; "
        for rest, word in (("far six | 1", 1), ("along right six | one.a 1 one.b -1", 2), ("null one.a 1 one.c -1", 3),
                           ("null six.a 1 six.b -1", 1), ("tie one.c | two.a", 1), ("tie one.a | two.c", 3), ("tie one.a | six.c", 3),
                           ("foot three | 0 | 0", 1), ("null one.a 1 one.b 1 ; far six | 1", 5), ("null one.a 1 one.b -1 ; far six | 1", 7),
                           ("tie one.a | two.a ; tie one.a | two.p", 8), ("tie one.a | two.a ; tie two.a | one.b", 8),
                           ("tie one.a | two.a ; tie two.p | one.a", 8), ("upright up one | up six", 5)):
            self.bad_text(start.count(" ") + word, Book.read, start + rest)
        start = start + "zwo : x 0 0 ; tie one.a | two.a ; tie zwo.x | two.p"
        self.assertEqual(len(Book.read(start).facts), 2)
        self.bad_text(start.count(" ") + 5, Book.read, start + " ; tie zwo.x | one.a")
        self.assertEqual(len(Book.read(start + " ; tie zwo.x | one.b").facts), 3)

    def test_many_parts(self):
        text = "one : a 0 0" + " ; far one | 2" * 60
        self.assertEqual(len(Book.read(text).facts), 60)
        self.bad_text(5 + 300, Book.read, text + " ; far one | 2")
        self.bad_text(5 + 300, Book.read, text + " ;")
        many = [f"p{number // 10}{number - number // 10 * 10} {number} 0" for number in range(41)]
        self.assertEqual(len(Book.read("one : " + " / ".join(many[:40]) + " ; far one | 2").labels), 40)
        self.bad_text(2 + 4 * 40 - 1, Book.read, "one : " + " / ".join(many) + " ; far one | 2")


if __name__ == "__main__":
    unittest.main()
