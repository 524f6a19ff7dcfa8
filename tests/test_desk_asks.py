"""Asks of a desk, beside what the functions themselves answer and raise."""

import random
import unittest

from alleyes.books import Book
from alleyes.desk_asks import answer_of
from alleyes.errors import BadFact, BadPicture, BadStep, BadText, EyesError, Impossible, NoFact, NoLabel, NoPicture, NotJoined, Nothing
from alleyes.errors import TooMany, Twice, TwoPictures, Unsettled
from alleyes.facts import Far, Foot, Null
from alleyes.pictures import Picture
from alleyes.reader import DEEDS
from alleyes.standing import stand
from tests.lines import answer, ask_lines
from tests.linked import linked_world
from tests.painting import random_world, true_facts
from tests.support import NO_TEXTS, Checks, Odd
from tests.test_clashes import BENT
from tests.test_lamps import LIT
from tests.test_reader import ALL_LINES
from tests.test_seconds import NARROWED
from tests.test_standing import AGAIN, CORNER, EDGES, HERE, IMPOSSIBLE, JOINED, ONE, TILE

FACTS = (Null(TILE),)


def told(standing, *lines):
    return [answer_of(standing.book.pictures, standing.book.facts, line) for line in lines]


class AsksTest(unittest.TestCase, Checks):
    def test_example(self):
        lines = ("way one.a -1 one.d 1", "depth one.c one.a", "drawn one.a -1 one.d 2", "eye one", "lacking")
        self.assertEqual([answer_of((ONE,), FACTS, line) for line in lines], ["3 3 1", "3", "12/5 12/5", "open", "3"])

    def test_answers(self):
        self.assertEqual(told(HERE, "names", "show one", "fact 2", "facts", "book", "used", "waiting", "lacking", "clash", "eye one"),
                         ["one", str(ONE), "lengths one.a -1 one.b 1 | right one | 1 | 1", "3", "possible", "0 1", "2", "2", "-", "open"])
        self.assertEqual(told(JOINED, "names", "lacking", "eye two", "together one.a 1 one.o -1 | two.a 1 two.o -1",
                              "together right one | up one", "together right one | up two",
                              "depth one.a two.a", "way right two", "word sharp right one | right two"),
                              ["one two", "1", "open", "1", "1", "waits", "1/2", "1 0 -1", "both"])
        self.assertEqual(told(NARROWED, "eye one", "eye two", "lacking", "waiting"), ["-1/2 0 1", "1/2 0 1", "0", "-"])
        self.assertEqual(told(LIT, "times one.a one.b one.e", "times one.b one.a one.e"), ["3", "1/3"])
        self.assertEqual(answer_of(pictures=[ONE], facts=[], line="used"), "-")
        bare = stand(Book([ONE]))
        self.assertEqual(told(bare, "depth one.a one.b", "depth one.a one.a", "drawn one.a -1 one.b 2", "drawn one.a 1/2 one.b 1/2",
                              "way one.a -1 one.b 1", "way up one",
                              "try null one.a 1 one.b -1 one.c 1 one.d -1", "try far one | -1",
                              "word along one.a -1 one.b 1 | one.c -1 one.d 1"),
                         ["0 -", "1", "sometimes", "spread", "waits", "0 1 0", "possible", "noeye", "both"])

    def test_impossible_books(self):
        for word, standing in IMPOSSIBLE.items():
            pictures, facts = standing.book.pictures, standing.book.facts
            self.assertEqual(answer_of(pictures, facts, "book"), word)
            self.assertEqual(answer_of(pictures, facts, "try far one | 9"), word)
            for line in ("used", "waiting", "lacking", "word deeper one.a | one.b", "way up one", "together up one | up one",
                         "depth one.a one.b", "drawn one.a 1", "eye one",
                         "times one.a one.b one.c"):
                self.raised(Impossible, {"word": word}, answer_of, pictures, facts, line)
        self.assertEqual(told(stand(BENT), "clash", "names", "facts", "fact 1", "show one"),
                         ["1 2", "one", "3", "foot one | 3 | 3", str(ONE)])

    def test_beside_functions(self):
        """Each answer is that of the functions; what they raise is raised."""
        source, seen = random.Random(1), {}
        for number in range(8):
            names = ("one", "two") if number & 1 else ("one",)
            if number % 3:
                world, standing = linked_world(source, names)
                facts = list(standing.book.facts) + true_facts(source, world, 4)
                if number % 4 == 3:
                    facts = source.sample(facts, 9)
            else:
                world = random_world(source, 6, names)
                facts = true_facts(source, world, 7)
            pictures = world.pictures()
            for line in ask_lines(source, world, 36):
                try:
                    wanted = answer(pictures, facts, line)
                except EyesError as why:
                    self.raised(type(why), vars(why), answer_of, pictures, facts, line)
                    seen[type(why).__name__] = True
                except IndexError:
                    self.raised(NoFact, {"number": int(line.split(" ")[1])}, answer_of, pictures, facts, line)
                else:
                    self.assertEqual(answer_of(pictures, facts, line), wanted, line)
                    seen[line.split(" ")[0]] = True
        self.assertTrue({"way", "together", "depth", "drawn", "eye", "word", "try", "show", "fact", "Unsettled"} <= set(seen), seen)

    def test_empty_desk(self):
        self.assertEqual([answer_of((), (), "names"), answer_of([], [], "facts"), answer_of((), FACTS, "facts")], ["-", "0", "1"])
        for line in ALL_LINES:
            word = line.partition(" ")[0]
            if word not in (*DEEDS, "names", "facts"):
                self.raised(Nothing, {}, answer_of, (), (), line)

    def test_errors(self):
        pictures = (CORNER, AGAIN)
        for line, error, fields in (("show three", NoPicture, {"name": "three"}), ("eye three", NoPicture, {"name": "three"}),
                                    ("fact 4", NoFact, {"number": 4}),
                                    ("try far three | 1", NoPicture, {"name": "three"}),
                                    ("try null one.y 1 one.z -1", NoLabel, {"name": "one.y"}),
                                    ("word deeper one.z | one.y", NoLabel, {"name": "one.z"}),
                                    ("way one.y 1 one.z -1", NoLabel, {"name": "one.y"}), ("way up six", NoPicture, {"name": "six"}),
                                    ("together up one | up six", NoPicture, {"name": "six"}),
                                    ("depth one.z six.a", NoLabel, {"name": "one.z"}), ("depth one.a six.a", NoLabel, {"name": "six.a"}),
                                    ("depth one.a two.b", NotJoined, {"one": "one", "other": "two"}),
                                    ("depth two.b one.a", NotJoined, {"one": "two", "other": "one"}),
                                    ("drawn one.z 1", NoLabel, {"name": "one.z"}),
                                    ("times one.a one.b two.c", TwoPictures, {"one": "one", "other": "two"}),
                                    ("times one.a one.z two.c", NoLabel, {"name": "one.z"}),
                                    ("times one.a one.b one.b", BadStep, {"part": "sum"}),
                                    ("times one.a one.b one.o", Unsettled, {"part": "end"})):
            self.raised(error, fields, answer_of, pictures, EDGES, line)
        barred = IMPOSSIBLE["neverone"].book
        self.raised(Impossible, {"word": "neverone"}, answer_of, barred.pictures, barred.facts, "depth one.a two.b")
        self.raised(NoLabel, {"name": "two.z"}, answer_of, barred.pictures, barred.facts, "depth one.a two.z")
        self.raised(TooMany, {"what": "facts", "most": 60}, answer_of, (ONE,), [Far("one", 9)] * 60, "try far one | 9")
        self.raised(Unsettled, {"part": "foot"}, answer_of, (ONE,), (), "times one.a one.b one.c")

    def test_order_of_errors(self):
        for value in (None, ONE, {"one": ONE}, [ONE, None], "one", Odd()):
            self.bad(BadPicture, "pictures", answer_of, value, None, None)
        for value in (None, FACTS[0], [None], "null", Odd()):
            self.bad(BadFact, "facts", answer_of, (ONE,), value, None)
        for value in (*NO_TEXTS, "", "ask", "Names"):
            self.raised(BadText, {"line": 0, "word": 0}, answer_of, (ONE, ONE), FACTS, value)
        for line in ALL_LINES:
            word = line.partition(" ")[0]
            if word in DEEDS:
                for more in ("", " ?", " "):
                    self.raised(BadText, {"line": 0, "word": 0}, answer_of, (ONE, ONE), FACTS, line + more)
                    self.raised(BadText, {"line": 0, "word": 0}, answer_of, (), (), word + more)
            else:
                self.raised(BadText, {"line": 0, "word": len(line.split(" "))}, answer_of, (ONE, ONE), FACTS, line + " ?")
                self.raised(Twice, {"name": "one"}, answer_of, (ONE, ONE), FACTS, line)
                self.raised(NoPicture, {"name": "six"}, answer_of, (ONE,), [Foot("six", 1, 1)], line)
                if word not in ("names", "facts"):
                    self.raised(Nothing, {}, answer_of, (), FACTS, line)
        self.raised(NoLabel, {"name": "one.a"}, answer_of, (Picture("one", {"z": (0, 0)}),), FACTS, "names")


if __name__ == "__main__":
    unittest.main()
