"""Checks of links, second eyes and what is lacking: bent papers are taken exactly if they are right."""

import random
import unittest

from alleyes.books import Book
from alleyes.check_links import shows_drawn_in, shows_lacks, shows_link, shows_second
from alleyes.drawn import Drawn
from alleyes.errors import BadMark, BadStanding, Impossible, NoLabel, NoPicture, NotJoined
from alleyes.facts import Far, Foot
from alleyes.lacks import Lacks, lacking
from alleyes.links import Apart, Joined, drawn_in, form_in, map_between
from alleyes.papers import Denial, Paper
from alleyes.ratios import Ratio
from alleyes.seconds import SecondEye, Several, second_eye
from alleyes.standing import stand
from alleyes.steps import Mark
from tests.bending import parts_bent
from tests.linked import half_seen, linked_world
from tests.painting import true_facts
from tests.right_drawn import right_drawn
from tests.right_links import right_lacks, right_second
from tests.support import NO_NAMES, Checks, Odd
from tests.test_check_standing import NO_PAPERS
from tests.test_links import LOOSELY, SAME
from tests.test_seconds import NARROWED
from tests.test_standing import AGAIN, CORNER, EDGES, IMPOSSIBLE, JOINED, TIES


class CheckLinksTest(unittest.TestCase, Checks):
    def test_links(self):
        lines = ((1, 0, 0), (0, 1, 0), (1, 0, 1))
        self.assertIs(shows_link(JOINED, "one", "two", map_between(JOINED, "one", "two")), True)
        self.assertIs(shows_link(standing=JOINED, one="one", other="two", value=Joined([list(line) for line in lines])), True)
        self.assertIs(shows_link(JOINED, "two", "two", Joined(SAME)), True)
        for value in (*NO_PAPERS, Joined(SAME), Joined(tuple(tuple(2 * number for number in line) for line in lines)),
                      Joined(lines[::-1]), Joined(()),
                      Joined(((True, 0, 0), (0, 1, 0), (1, 0, 1))), Joined(((1, False, 0), (0, 1, 0), (1, 0, 1))), Joined(None),
                      Joined((1, 2, 3)),
                      Joined(((1.0, 0, 0), (0, 1, 0), (1, 0, 1))), Joined(((Ratio(1), 0, 0), (0, 1, 0), (1, 0, 1))),
                      Joined(lines + lines[:1]),
                      Joined(lines[:2]), Joined(((1, 0, 0, 0), (0, 1, 0), (1, 0, 1))), Paper("joined", lines), Apart("few"),
                      Apart("plane"), lines):
            self.assertIs(shows_link(JOINED, "one", "two", value), False)
        for facts, why in ((EDGES + TIES[1:], "few"), (TIES, "waits")):
            standing = stand(Book([CORNER, AGAIN], facts))
            for told in ("few", "waits", "plane", "", None, 1, True):
                self.assertIs(shows_link(standing, "one", "two", Apart(told)), told == why)
            for value in (*NO_PAPERS, Joined(SAME), Joined(lines), Denial("apart", why), why):
                self.assertIs(shows_link(standing, "one", "two", value), False)

    def test_bent_links(self):
        source = random.Random(1)
        _, standing = linked_world(source, ("one", "two", "three"))
        for one in ("one", "two", "three"):
            for other in ("one", "two", "three"):
                paper = map_between(standing, one, other)
                for _ in range(60):
                    bent = Joined(*parts_bent(paper.parts, source))
                    same = bent == paper and all(type(number) is int for line in bent.lines for number in line)
                    self.assertIs(shows_link(standing, one, other, bent), same, bent.parts)

    def test_drawn_in(self):
        source, taken, words = random.Random(2), 0, {}
        _, standing = half_seen(source)
        cone = standing.heaps[0].cone
        for mark in (Mark.of_point("one.g"), Mark.of_point("two.d"), Mark({"one.a": 2, "one.b": -1}),
                     Mark({"one.a": 30, "one.b": -29}), Mark({"two.a": -40, "two.c": 41})):
            for name in ("one", "two"):
                form, paper = form_in(standing, mark, name), drawn_in(standing, mark, name)
                words[paper.word] = True
                self.assertIs(shows_drawn_in(standing=standing, mark=mark, name=name, value=paper), True)
                for _ in range(100):
                    bent = type(paper)(*parts_bent(paper.parts, source))
                    wanted = right_drawn(cone, form, bent)
                    taken += wanted
                    self.assertIs(shows_drawn_in(standing, mark, name, bent), wanted, bent.parts)
                for value in NO_PAPERS:
                    self.assertIs(shows_drawn_in(standing, mark, name, value), False)
        self.assertGreater(taken, 3)
        self.assertIn("drawn", words)
        found = drawn_in(standing, Mark.of_point("one.g"), "two")
        self.assertIs(shows_drawn_in(standing, Mark.of_point("one.g"), "two", Drawn(found.x + 1, *found.parts[1:])), False)

    def test_seconds(self):
        """A SecondEye of an open heap, a Several of a heap with one eye, and any other parts are reckoned anew."""
        source, seen = random.Random(3), {}
        two = stand(Book([CORNER, AGAIN], [Foot("two", 1, 2), Far("two", 9)]))
        _, boxed = linked_world(source, ("one", "two"))
        for standing in (JOINED, LOOSELY, NARROWED, two, boxed):
            for name in ("one", "two"):
                paper = second_eye(standing, name)
                self.assertIs(shows_second(standing=standing, name=name, value=paper), True)
                others = [second_eye(here, word) for here in (JOINED, LOOSELY, NARROWED, two) for word in ("one", "two")]
                bends = [type(paper)(*parts_bent(paper.parts, source)) for _ in range(200)]
                for value in (*others, *bends, *NO_PAPERS):
                    wanted = right_second(standing, name, value)
                    seen[type(value).__name__, wanted] = True
                    self.assertIs(shows_second(standing, name, value), wanted, getattr(value, "parts", None))
        self.assertTrue({("SecondEye", True), ("SecondEye", False), ("Several", True), ("Several", False)} <= set(seen))

    def test_seconds_as_told(self):
        for value, wanted in ((SecondEye(1, 2, 9), True), (SecondEye(Ratio(1), 2, Ratio(9)), True), (SecondEye(True, 2, 9), False),
                              (SecondEye(1, 2, 8), False),
                              (Several((1, 2, 9), (1, 2, 9)), False), (Several((1, 2, 9), (1, 2, 10)), False),
                              (Paper("secondeye", 1, 2, 9), False),
                              (SecondEye((1, 2, 9), None, None), False), (SecondEye("1", 2, 9), False)):
            self.assertIs(shows_second(stand(Book([CORNER, AGAIN], [Foot("two", 1, 2), Far("two", 9)])), "two", value), wanted)
        eye = (Ratio(1, 2), 0, 1)
        for value, wanted in ((SecondEye(*eye), False), (Several(eye, (0, 0, 1)), True), (Several(eye, eye), False),
                              (Several((0, 0, 1), [0, 0, Ratio(1)]), False),
                              (Several((0, 0, 1), (0, 0, 2)), True), (Several((0, 0, 1), (1, 0, 1)), False),
                              (Several((0, 0, 1), (0, False, 2)), False),
                              (Several((0, 0, 0), (0, 0, 2)), False), (Several((0, 0, 1), (0, 0, 2, 3)), False),
                              (Several(None, None), False)):
            self.assertIs(shows_second(LOOSELY, "one", value), wanted)
        # At an eye at which a look row is not 0 there is no mate.
        for value, wanted in ((Several((1, 0, 2), (Ratio(3, 2), 0, 3)), True), (Several((1, 0, 2), (Ratio(3, 2), 0, 4)), False),
                              (Several((1, 0, 2), (Ratio(3, 2), 1, 5)), False), (Several((2, 0, 4), (1, 0, 2)), False),
                              (Several((2, 0, 5), (1, 0, 2)), False)):
            self.assertIs(shows_second(JOINED, "two", value), right_second(JOINED, "two", value))
            self.assertIs(shows_second(JOINED, "two", value), wanted, value.parts)

    def test_lacks(self):
        source, seen = random.Random(4), {}
        world, boxed = linked_world(source, ("one", "two"))
        longer = stand(Book(boxed.book.pictures, [*boxed.book.facts, *true_facts(source, world, 3)]))
        fixed = stand(Book([CORNER, AGAIN], [Foot("two", 1, 2), Far("two", 9), Foot("two", 1, 2)]))
        for standing in (JOINED, LOOSELY, NARROWED, boxed, longer, fixed):
            for paper in lacking(standing):
                self.assertIs(shows_lacks(standing, paper), True)
                others = [lack for here in (JOINED, LOOSELY, NARROWED, fixed) for lack in lacking(here)]
                bends = [Lacks(*parts_bent(paper.parts, source)) for _ in range(250)]
                bends += [Lacks(paper.home, paper.number, tuple(source.sample(range(len(standing.heap_of(paper.home).flat)),
                        3 - paper.number)), paper.eyes)
                          for _ in range(20)]
                for value in (*others, *bends, *NO_PAPERS):
                    wanted = right_lacks(standing, value)
                    seen[wanted] = seen.get(wanted, 0) + 1
                    self.assertIs(shows_lacks(standing=standing, value=value), wanted, getattr(value, "parts", None))
        self.assertGreater(seen[True], 40)

    def test_lacks_as_told(self):
        fixed = stand(Book([CORNER], [Foot("one", 1, 2), Far("one", 9), Foot("one", 1, 2)]))
        eye = (1, 2, 9)
        for parts, wanted in ((("one", 0, (0, 1, 2), (eye,)), True), (("one", 0, (2, 4, 3), (eye,)), True),
                              (("one", 0, (0, 3, 2), (eye,)), False),
                              (("one", 0, (0, 0, 2), (eye,)), False), (("one", 0, (0, 1), (eye,)), False),
                              (("one", 0, (0, 1, 2, 3), (eye,)), False),
                              (("one", 0, (0, 1, -3), (eye,)), False), (("one", 0, (0, 1, 5), (eye,)), False),
                              (("one", 0, (0, True, 2), (eye,)), False),
                              (("one", False, (0, 1, 2), (eye,)), False), (("one", Ratio(0), (0, 1, 2), (eye,)), False),
                              (("one", 0, (0, 1, Ratio(2)), (eye,)), False),
                              (("two", 0, (0, 1, 2), (eye,)), False), ((None, 0, (0, 1, 2), (eye,)), False),
                              (("one", 0, (0, 1, 2), (eye, eye)), False),
                              (("one", 0, (0, 1, 2), ()), False), (("one", 0, (0, 1, 2), eye), False),
                              (("one", 1, (0, 1), (eye, (1, 2, 8))), False),
                              (("one", 0, None, (eye,)), False), (("one", 0, (0, 1, 2), ((1, 2, 10),)), False),
                              (("one", -1, (0, 1, 2, 3), ()), False)):
            self.assertIs(shows_lacks(fixed, Lacks(*parts)), wanted, parts)
        bare = stand(Book([CORNER]))
        eyes = ((0, 0, 1), (0, 0, 2), (1, 0, 5), (0, 1, 5))
        for told, wanted in ((eyes, True), (eyes[::-1], True), (eyes[:3] + ((2, 0, 9),), False), (eyes[:3], False),
                             (eyes + ((1, 1, 9),), False),
                             (((1, 1, 9), (1, 2, 9), (1, 1, 10), (1, 0, 9)), False), (((1, 1, 9), (2, 1, 9), (1, 1, 10), (0, 1, 9)), False),
                             (((1, 1, 9), (2, 1, 9), (1, 2, 9), (0, 1, 9)), False), (eyes[:3] + (eyes[0],), False),
                             (eyes[:3] + ((0, 1, 1),), False), (eyes[:3] + ((0, 2, 4),), False)):
            self.assertIs(shows_lacks(bare, Lacks("one", 3, (), told)), wanted)

    def test_errors(self):
        gone = Mark({"one.z": 2, "one.y": -1})
        for value in (None, LOOSELY.book, Odd()):
            self.bad(BadStanding, "standing", shows_link, value, None, None, None)
            self.bad(BadStanding, "standing", shows_drawn_in, value, None, None, None)
            self.bad(BadStanding, "standing", shows_second, value, None, None)
            self.bad(BadStanding, "standing", shows_lacks, value, None)
        for standing in (LOOSELY, *IMPOSSIBLE.values()):
            for value in (*NO_NAMES, "six"):
                self.raised(NoPicture, {"name": value}, shows_link, standing, value, value, None)
                self.raised(NoPicture, {"name": value}, shows_link, standing, "one", value, None)
                self.raised(NoPicture, {"name": value}, shows_drawn_in, standing, gone, value, None)
                self.raised(NoPicture, {"name": value}, shows_second, standing, value, None)
            self.bad(BadMark, "mark", shows_drawn_in, standing, None, None, None)
            self.raised(NoLabel, {"name": "one.y"}, shows_drawn_in, standing, gone, "one", None)
        self.raised(NotJoined, {"one": "one", "other": "two"}, shows_drawn_in, LOOSELY, Mark.of_point("one.a"), "two", None)
        for word, standing in IMPOSSIBLE.items():
            self.raised(Impossible, {"word": word}, shows_link, standing, "one", "one", None)
            self.raised(Impossible, {"word": word}, shows_drawn_in, standing, Mark.of_point("one.a"), "one", None)
            self.raised(Impossible, {"word": word}, shows_second, standing, "one", None)
            self.raised(Impossible, {"word": word}, shows_lacks, standing, None)


if __name__ == "__main__":
    unittest.main()
