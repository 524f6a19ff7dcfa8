"""Desks: lines told one by one, at once, tried, undone, done again; twins."""

import random
import unittest

from alleyes.books import Book
from alleyes.desk import Desk
from alleyes.desk_asks import answer_of
from alleyes.desk_deeds import changed
from alleyes.errors import BadLine, BadText, EyesError, Impossible, NoFact, NoLabel, NoPicture, Nothing, TooMany, Twice
from alleyes.facts import Far, Null
from alleyes.reader import ASKS
from alleyes.standing import stand
from tests.chosen import false_fact
from tests.lines import ask_lines, deed_lines
from tests.linked import linked_world
from tests.painting import random_fact
from tests.support import NO_NAMES, NO_TEXTS, Checks, Odd
from tests.test_standing import ONE, TILE

PUT, TELL = f"put {ONE}", f"tell {Null(TILE)}"


def tiled():
    desk = Desk()
    desk.told(PUT, TELL)
    return desk


def state(desk):
    """All that a desk tells of itself."""
    return desk.pictures, desk.facts, desk.story, desk.book, len(desk), list(desk)


def laters(desk):
    """The lines that can be done again, in turn."""
    other, found = desk.twin(), []
    while True:
        try:
            found.append(other.redo())
        except Nothing:
            return found


class DeskTest(unittest.TestCase, Checks):
    def refused(self, desk, index, error, fields, *lines):
        """The error of a line that is refused; the desk is as before."""
        before, after = state(desk), laters(desk)
        for call in (desk.told, desk.tried):
            with self.assertRaises(BadLine) as caught:
                call(*lines)
            self.assertEqual([caught.exception.line, type(caught.exception.error), vars(caught.exception.error)], [index, error, fields])
            self.assertEqual([state(desk), laters(desk)], [before, after])
        if len(lines) == 1:
            self.raised(error, fields, desk, lines[0])
            self.assertEqual([state(desk), laters(desk)], [before, after])

    def test_example(self):
        desk = Desk()
        lines = (PUT, TELL, "way one.a -1 one.d 1", "depth one.c one.a", "drawn one.a -1 one.d 2", "eye one", "lacking")
        self.assertEqual(desk.told(*lines), ("1", "0", "3 3 1", "3", "12/5 12/5", "open", "3"))
        self.refused(desk, 2, NoFact, {"number": 0}, "strike 0", "way one.a -1 one.d 1", "fact 0")
        self.assertEqual((desk.undo()[:8], desk("facts"), desk.redo()[:8], len(desk.story)), ("tell nul", "0", "tell nul", 2))

    def test_empty(self):
        desk = Desk()
        self.assertEqual(state(desk), ((), (), (), None, 0, []))
        self.assertEqual([desk.told(), desk.tried(), desk("names"), desk("facts"), desk == Desk(), bool(Desk() != Desk())],
                         [(), (), "-", "0", True, False])
        self.raised(Nothing, {}, desk.undo)
        self.raised(Nothing, {}, desk.redo)
        self.refused(desk, 0, Nothing, {}, "book")
        self.refused(desk, 0, Nothing, {}, "drop one")
        self.refused(desk, 1, Nothing, {}, "names", TELL)
        self.assertIs("one" in desk, False)

    def test_kept(self):
        desk = tiled()
        self.assertEqual(state(desk), ((ONE,), (Null(TILE),), (PUT, TELL), Book([ONE], [Null(TILE)]), 1, [str(Null(TILE))]))
        self.assertEqual(["one" in desk, "two" in desk, "one.a" in desk], [True, False, False])
        for value in (*NO_NAMES, ONE, ("one",)):
            self.assertIs(value in desk, False)
        self.assertEqual([desk(f"tell {Far('one', 27)}"), list(iter(desk)), len(desk)], ["1", [str(Null(TILE)), "far one | 27"], 2])
        self.assertEqual([desk(line="names"), desk.book.facts, type(desk.facts), type(desk.pictures), type(desk.story)],
                         ["one", (Null(TILE), Far("one", 27)), tuple, tuple, tuple])
        self.assertEqual([desk("drop one"), state(desk)[:2], desk.book, "one" in desk], ["0", ((), ()), None, False])
        self.assertEqual([desk.undo(), desk.book.names, desk.redo(), desk.book], ["drop one", ("one",), "drop one", None])

    def test_told_at_once(self):
        """All lines are done, or none."""
        desk = tiled()
        self.refused(desk, 3, Twice, {"name": "two"}, "put two : a 0 0", "tell far two | 9", "drop one", "put two : b 1 1", PUT)
        self.refused(desk, 2, NoPicture, {"name": "one"}, "put two : a 0 0", "drop one", "show one")
        self.refused(desk, 0, BadText, {"line": 0, "word": 0}, "?", "facts")
        self.refused(desk, 1, BadText, {"line": 0, "word": 2}, "tell far one | 9", "strike 1 x")
        self.refused(desk, 1, Impossible, {"word": "noeye"}, "tell far one | -1", "lacking")
        for value in NO_TEXTS:
            self.refused(desk, 0, BadText, {"line": 0, "word": 0}, value)
            self.refused(desk, 1, BadText, {"line": 0, "word": 0}, "facts", value, "facts")
        desk.undo()
        self.refused(desk, 1, NoLabel, {"name": "one.z"}, TELL, "way one.a 1 one.z -1")
        self.assertEqual([laters(desk), desk.story], [[TELL], (PUT,)])

    def test_tried(self):
        desk = tiled()
        before = state(desk)
        self.assertEqual(desk.tried("put two : a 0 0", "names", "drop one", "facts", "names"), ("2", "one two", "0", "0", "two"))
        self.assertEqual([state(desk), laters(desk)], [before, []])
        desk.undo()
        self.assertEqual([desk.tried("tell far one | 9", "facts"), laters(desk), desk.story], [("0", "1"), [TELL], (PUT,)])

    def test_undo_and_redo(self):
        desk = tiled()
        desk.told("tell far one | 20", "strike 0")
        self.assertEqual([desk.undo(), desk.facts, desk.undo(), desk.facts],
                         ["strike 0", (Null(TILE), Far("one", 20)), "tell far one | 20", (Null(TILE),)])
        # Lines that ask, are refused or tried leave what can be done again.
        desk.told("facts", "book")
        desk("lacking")
        desk.tried("tell far one | 3")
        self.refused(desk, 1, NoFact, {"number": 9}, "tell far one | 5", "strike 9")
        self.raised(NoFact, {"number": 9}, desk, "strike 9")
        self.assertEqual([laters(desk), desk.redo(), laters(desk)], [["tell far one | 20", "strike 0"], "tell far one | 20", ["strike 0"]])
        self.assertEqual([desk.redo(), desk.facts, desk.story], ["strike 0", (Far("one", 20),),
                (PUT, TELL, "tell far one | 20", "strike 0")])
        self.raised(Nothing, {}, desk.redo)
        desk.undo()
        # A deed done takes away what could be done again; a refused one does not.
        desk("tell far one | 20")
        self.raised(Nothing, {}, desk.redo)
        self.assertEqual([desk.undo(), desk.undo(), desk.undo(), desk.undo(), state(desk)],
                         ["tell far one | 20", "tell far one | 20", TELL, PUT, state(Desk())])
        self.raised(Nothing, {}, desk.undo)
        self.assertEqual(laters(desk), [PUT, TELL, "tell far one | 20", "tell far one | 20"])
        desk.told("names")
        self.assertEqual([desk.redo(), desk("names")], [PUT, "one"])
        desk.told(TELL, "facts")
        self.raised(Nothing, {}, desk.redo)

    def test_empty_deeds_are_deeds(self):
        """A light without facts is a deed, too."""
        desk = tiled()
        desk.undo()
        self.assertEqual([desk("light sun one.a one.b"), desk.story, laters(desk)], ["0", (PUT, "light sun one.a one.b"), []])

    def test_twins(self):
        desk = tiled()
        desk.undo()
        twin = desk.twin()
        self.assertEqual([type(twin), state(twin), laters(twin), twin == desk], [Desk, state(desk), [TELL], True])
        twin.redo()
        twin("tell far one | 9")
        self.assertEqual([desk.facts, laters(desk), desk.story, len(twin), twin == desk], [(), [TELL], (PUT,), 2, False])
        desk("drop one")
        self.assertEqual([twin("names"), twin.undo(), twin.undo(), twin.undo(), desk.story],
                         ["one", "tell far one | 9", TELL, PUT, (PUT, "drop one")])

    def test_equality(self):
        one, other = tiled(), Desk()
        other.told(PUT, "tell far one | 9", TELL, "strike 0")
        self.assertTrue(one == other and not one != other)
        self.assertNotEqual(one.story, other.story)
        swapped, both = Desk(), Desk()
        swapped.told("put two : a 0 0", PUT)
        both.told(PUT, "put two : a 0 0")
        self.assertTrue(swapped != both and not swapped == both)
        swapped.told("tell far one | 9", "tell far two | 9")
        both.told("drop one", PUT, "tell far two | 9", "tell far one | 9")
        self.assertTrue(swapped.pictures == both.pictures and swapped != both)
        for value in (None, Odd(), one.book, state(one), "desk"):
            self.assertTrue(one != value and not one == value)

    def test_beside_functions(self):
        """Every line answers, or raises, as the functions of deeds and asks do; the story brings it back."""
        source, seen = random.Random(1), {}
        for number in range(5):
            world, standing = linked_world(source, ("one", "two") if number & 1 else ("one",))
            facts = source.sample(standing.book.facts, min(len(standing.book.facts), 8)) + [random_fact(source,
                    world) for _ in range(3)] + [false_fact(source, world)]
            lines = deed_lines(world, facts) + ask_lines(source, world, 14) + ["strike 3", "strike 0 99", "drop two", "fact 2",
                    "put one : a 0 0", "tell far six | 1"]
            for _ in range(2):
                source.shuffle(lines)
                desk, pictures, kept, story = Desk(), (), (), []
                for line in lines:
                    try:
                        if line.split(" ")[0] in ASKS:
                            wanted = answer_of(pictures, kept, line)
                        else:
                            pictures, kept, wanted = changed(pictures, kept, line)
                            story.append(line)
                    except EyesError as why:
                        self.raised(type(why), vars(why), desk, line)
                        seen[type(why)] = True
                        continue
                    self.assertEqual(desk(line), wanted)
                    self.assertEqual([desk.pictures, desk.facts, desk.story], [pictures, kept, tuple(story)])
                again = Desk()
                answers = again.told(*story)
                self.assertEqual([len(answers), state(again)], [len(story), state(desk)])
                for _ in story:
                    desk.undo()
                self.assertEqual(state(desk), state(Desk()))
                for line in story:
                    self.assertEqual(desk.redo(), line)
                self.assertEqual(state(again), state(desk))
        self.assertTrue({Nothing, NoFact, Twice} <= set(seen))

    def test_order_of_facts(self):
        """Facts put in in another order give, of a possible book, the same answers but for their numbers; struck ones nothing."""
        source = random.Random(2)
        for _ in range(3):
            world, standing = linked_world(source, ("one", "two"))
            facts = list(standing.book.facts)
            asks = [line for line in ask_lines(source, world, 26) if line.split(" ")[0] not in ("fact", "used", "waiting")]
            one, other = Desk(), Desk()
            one.told(*deed_lines(world, facts))
            source.shuffle(facts)
            other.told(*deed_lines(world, [facts[0], Far("one", -1), *facts[1:]]), "strike 1")
            for line in asks:
                try:
                    wanted = one(line)
                except EyesError as why:
                    self.raised(type(why), vars(why), other, line)
                else:
                    self.assertEqual(other(line), wanted, line)

    def test_most(self):
        desk = tiled()
        for name in "abc":
            desk(f"put {name} : a 0 0")
        self.raised(TooMany, {"what": "pictures", "most": 4}, desk, "put d : a 0 0")
        desk.told(*["tell far one | 9"] * 59)
        self.refused(desk, 0, TooMany, {"what": "facts", "most": 60}, "tell far one | 9")
        self.assertEqual([len(desk), len(desk.story), stand(desk.book).is_possible], [60, 64, True])


if __name__ == "__main__":
    unittest.main()
