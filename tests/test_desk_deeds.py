"""Deeds of a desk: what each line puts in and takes out, and what it refuses."""

import random
import unittest

from alleyes.books import Book
from alleyes.desk_deeds import changed
from alleyes.errors import BadFact, BadPicture, BadText, NoFact, NoLabel, NoPicture, Nothing, TooMany, Twice
from alleyes.facts import Far, Foot, InPlane, Null, SameWay, Tie, Upright
from alleyes.lights import Light
from alleyes.pictures import Picture
from alleyes.reader import ASKS
from alleyes.steps import Step
from tests.linked import linked_world
from tests.painting import random_fact
from tests.support import NO_TEXTS, Checks, Odd
from tests.test_reader import ALL_LINES
from tests.test_standing import AB, AD, AGAIN, CORNER, ONE, TIES, TILE

FACTS = (Null(TILE), Far("one", 20), Foot("one", 3, 3))


def names_of(fact):
    """The names of the pictures that a fact names."""
    if isinstance(fact, Tie):
        return {fact.one.partition(".")[0], fact.other.partition(".")[0]}
    return {fact.name} if isinstance(fact, (Foot, Far)) else {step.picture_name for step in fact.steps}


class DeedsTest(unittest.TestCase, Checks):
    def test_put(self):
        self.assertEqual(changed(pictures=(), facts=(), line=f"put {ONE}"), ((ONE,), (), "1"))
        self.assertEqual(changed([CORNER], [], f"put {AGAIN}"), ((CORNER, AGAIN), (), "2"))
        found = changed((ONE,), FACTS, "put two : a 0 0")
        self.assertEqual(found, ((ONE, Picture("two", {"a": (0, 0)})), FACTS, "2"))
        self.assertEqual([type(part) for part in found], [tuple, tuple, str])
        self.raised(Twice, {"name": "one"}, changed, (ONE,), FACTS, "put one : z 9 9")
        four = [Picture(name, {"a": (0, 0)}) for name in "abcd"]
        self.raised(TooMany, {"what": "pictures", "most": 4}, changed, four, (), "put e : a 0 0")
        self.raised(Twice, {"name": "d"}, changed, four, (), "put d : a 0 0")

    def test_tell(self):
        self.assertEqual(changed((ONE,), (), f"tell {FACTS[0]}"), ((ONE,), FACTS[:1], "0"))
        self.assertEqual(changed([ONE], list(FACTS), f"tell {FACTS[1]}"), ((ONE,), (*FACTS, FACTS[1]), "3"))
        self.assertEqual(changed((CORNER, AGAIN), TIES[:2], f"tell {TIES[2]}")[1:], (TIES[:3], "2"))
        self.raised(NoLabel, {"name": "one.y"}, changed, (ONE,), (), "tell null one.y 1 one.z -1")
        self.raised(NoPicture, {"name": "two"}, changed, (ONE,), (), "tell far two | 1")
        self.raised(Twice, {"name": "one.a"}, changed, (CORNER, AGAIN), TIES, "tell tie one.a | two.b")
        self.raised(TooMany, {"what": "facts", "most": 60}, changed, (ONE,), FACTS * 20, "tell far one | 1")
        self.assertEqual(changed((ONE,), [Far("one", 1)] * 59, "tell far one | 1")[2], "59")

    def test_light(self):
        for text, many in (("sun one.a one.b", 0), ("sun one.a one.b / one.d one.c / one.b one.c", 2),
                           ("lamp right one | up one | one.a | one.b one.c", 3),
                           ("water one.a | right one | up one | up one | one.b one.c", 2),
                           ("mirror one.a | right one | up one | one.b one.c / one.a one.d", 5)):
            light = Light.read(text)
            self.assertEqual(len(light.facts), many)
            self.assertEqual(changed((ONE,), FACTS, f"light {text}"), ((ONE,), (*FACTS, *light.facts), str(3 + many)))
        self.raised(NoLabel, {"name": "one.z"}, changed, (ONE,), FACTS, "light sun one.a one.b / one.a one.z")
        self.raised(TooMany, {"what": "facts", "most": 60}, changed, (ONE,), FACTS * 20, "light sun one.a one.b / one.d one.c")
        self.assertEqual(changed((ONE,), FACTS * 20, "light sun one.a one.b")[2], "60")

    def test_strike(self):
        facts = (*FACTS, Upright(AB, AD), Far("one", 3))
        for line, kept in (("strike 0", facts[1:]), ("strike 4", facts[:4]), ("strike 3 1", (facts[0], facts[2], facts[4])),
                           ("strike 4 0 3 1 2", ())):
            self.assertEqual(changed((ONE,), facts, line), ((ONE,), kept, str(len(kept))))
        for line, number in (("strike 5", 5), ("strike 0 0 7 9", 7), ("strike 100", 100)):
            self.raised(NoFact, {"number": number}, changed, (ONE,), facts, line)
        self.raised(Twice, {"name": 1}, changed, (ONE,), facts, "strike 2 1 0 1 2")
        self.raised(NoFact, {"number": 0}, changed, (ONE,), (), "strike 0 0")

    def test_drop(self):
        """Goes with each fact that names a label of the picture, its right or up, or itself."""
        facts = (*TIES, Far("two", 9), Far("one", 9), InPlane(AB, Step.right_of("two"), Step.up_of("one")),
                 SameWay(AB, Step.up_of("one")), Foot("two", 1, 1))
        self.assertEqual(changed((CORNER, AGAIN), facts, "drop two"), ((CORNER,), (facts[5], facts[7]), "2"))
        self.assertEqual(changed([CORNER, AGAIN], facts, "drop one"), ((AGAIN,), (facts[4], facts[8]), "2"))
        self.assertEqual(changed((ONE,), FACTS, "drop one"), ((), (), "0"))
        for name in ("two", "a"):
            self.raised(NoPicture, {"name": name}, changed, (ONE,), FACTS, f"drop {name}")
        source = random.Random(1)
        for _ in range(10):
            world, standing = linked_world(source, ("one", "two", "three"))
            facts = [*source.sample(standing.book.facts, 20), *[random_fact(source, world) for _ in range(20)]]
            for name in world.looks:
                pictures, kept, answer = changed(standing.book.pictures, facts, f"drop {name}")
                self.assertEqual(kept, tuple(fact for fact in facts if name not in names_of(fact)))
                self.assertEqual([tuple(picture.name for picture in pictures), answer],
                                 [tuple(other for other in world.looks if other != name), str(len(kept))])
                self.assertEqual(Book(pictures, kept).facts, kept)

    def test_order_of_errors(self):
        for value in (None, ONE, {"one": ONE}, [ONE, None], "one", Odd(), [FACTS[0]]):
            self.bad(BadPicture, "pictures", changed, value, None, None)
        for value in (None, FACTS[0], [None], [FACTS[0], ONE], "null", Odd()):
            self.bad(BadFact, "facts", changed, (ONE,), value, None)
        for value in NO_TEXTS:
            self.raised(BadText, {"line": 0, "word": 0}, changed, (ONE, ONE), FACTS, value)
        for line in ALL_LINES:
            word = line.partition(" ")[0]
            if word in ASKS:
                for more in ("", " ?", " ", " one"):
                    self.raised(BadText, {"line": 0, "word": 0}, changed, (ONE, ONE), FACTS, line + more)
                    self.raised(BadText, {"line": 0, "word": 0}, changed, (), (), word + more)
            else:
                many = len(line.split(" "))
                self.raised(BadText, {"line": 0, "word": many}, changed, (ONE, ONE), FACTS, line + " ?")
                self.raised(Twice, {"name": "one"}, changed, (ONE, ONE), FACTS, line)
                self.raised(NoLabel, {"name": "one.a"}, changed, (Picture("one", {"z": (0, 0)}),), FACTS, line)
                if word != "put":
                    self.raised(Nothing, {}, changed, (), (), line)
                    self.raised(Nothing, {}, changed, (), FACTS, line)
        self.raised(BadText, {"line": 0, "word": 1}, changed, (), (), "drop")
        self.raised(NoLabel, {"name": "one.b"}, changed, (), FACTS, "put one : a 0 0")
        self.assertEqual(changed((), FACTS, f"put {ONE}"), ((ONE,), FACTS, "1"))
        self.raised(BadText, {"line": 0, "word": 9}, changed, (), (), "put one : a 0 0 / b 0 0")


if __name__ == "__main__":
    unittest.main()
