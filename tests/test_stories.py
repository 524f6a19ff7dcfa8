"""Stories: played back, merged, parted."""

import random
import unittest

from alleyes.desk import Desk
from alleyes.errors import BadDesk, BadLine, BadText, EyesError, NoFact, NoLabel, Nothing, Twice
from alleyes.reader import ASKS
from alleyes.stories import merged, parting, replay
from tests.lines import deed_lines
from tests.linked import linked_world
from tests.painting import random_fact
from tests.support import Checks, Odd
from tests.test_desk import PUT, TELL, laters, state, tiled
from tests.test_reader import ALL_LINES


def told(*lines):
    desk = Desk()
    desk.told(*lines)
    return desk


class StoriesTest(unittest.TestCase, Checks):
    def line_refused(self, index, error, fields, lines):
        with self.assertRaises(BadLine) as caught:
            replay(lines)
        self.assertEqual([caught.exception.line, type(caught.exception.error), vars(caught.exception.error)], [index, error, fields])

    def test_example(self):
        desk = tiled()
        fork = desk.twin()
        self.assertEqual([fork("strike 0"), parting(desk, fork), merged(desk, fork)[0] == fork, replay(fork.story) == fork],
                         ["0", 2, True, True])

    def test_replay(self):
        desk = replay(lines=[PUT, TELL, "tell far one | 9", "strike 0"])
        self.assertEqual([type(desk), desk.story, desk.facts[0].s, len(desk)], [Desk, (PUT, TELL, "tell far one | 9", "strike 0"), 9, 1])
        self.assertEqual([state(replay(desk.story)), laters(replay(desk.story))], [state(desk), []])
        self.assertEqual([state(replay([])), state(replay(()))], [state(Desk())] * 2)

    def test_replay_errors(self):
        for value in (None, 1, PUT, {PUT: 1}, [None], [PUT, 3], [PUT, ["names"]], (PUT, b"names"), Odd(), tiled()):
            self.bad(BadDesk, "lines", replay, value)
        for line in ALL_LINES:
            word = line.split(" ")[0]
            if word in ASKS:
                for told_line in (line, line + " ?", word, word + " "):
                    self.line_refused(1, BadText, {"line": 0, "word": 0}, [PUT, told_line, TELL])
        for lines, index, error, fields in ((["names"], 0, BadText, {"line": 0, "word": 0}), ([TELL], 0, Nothing, {}),
                                            ([PUT, TELL, PUT], 2, Twice, {"name": "one"}),
                                            ([PUT, "strike 0"], 1, NoFact, {"number": 0}),
                                            ([PUT, "tell"], 1, BadText, {"line": 0, "word": 1}),
                                            ([PUT, "", "names"], 1, BadText, {"line": 0, "word": 0}),
                                            ([PUT, "tell far one | 9", "tell null one.y 1 one.z -1", "names"], 2, NoLabel,
                                             {"name": "one.y"})):
            self.line_refused(index, error, fields, lines)

    def test_parting(self):
        one = told(PUT, TELL, "tell far one | 9")
        for lines, shared in (((), 0), ((PUT,), 1), ((PUT, TELL), 2), ((PUT, TELL, "tell far one | 8"), 2),
                              ((PUT, "tell far one | 9", TELL), 1), (one.story, 3),
                              ((*one.story, "strike 0"), 3), (("put two : a 0 0", PUT), 0)):
            self.assertEqual([parting(one=one, other=told(*lines)), parting(told(*lines), one)], [shared, shared])
        self.assertEqual(parting(one, one), 3)
        one.undo()
        self.assertEqual(parting(one, told(PUT, TELL, "tell far one | 9")), 2)

    def test_merged(self):
        one = told(PUT, TELL, "tell far one | 9", "put two : a 0 0")
        other = told(PUT, TELL, "strike 0", "put two : b 1 1", "tell far two | 3", "tell far one | 8", "strike 1 0")
        found = merged(one=one, other=other)
        self.assertEqual([type(found), type(found[0]), found[1]], [tuple, Desk, (3,)])
        # strike 0 takes out what the new desk keeps there; the second picture is refused, what is told of two stands.
        self.assertEqual(found[0].story, (PUT, TELL, "tell far one | 9", "put two : a 0 0", "strike 0", "tell far two | 3",
                                          "tell far one | 8", "strike 1 0"))
        self.assertEqual([list(found[0]), laters(found[0])], [["far one | 8"], []])
        self.assertEqual(merged(other, one)[1], (3,))
        self.assertEqual([merged(Desk(), one)[0] == one, merged(one, Desk())[0] == one, merged(one, one)[0].story], [True, True, one.story])
        self.assertEqual(merged(told(PUT), told("put one : b 1 1 / z 3 3", "tell far one | 9", "tell null one.b 1 one.z -1"))[1], (0, 2))
        for desk, story in ((one, 4), (other, 7)):
            self.assertEqual(len(desk.story), story)

    def test_merged_beside_lines(self):
        """Beside lines told in turn to a desk of its own."""
        source, seen = random.Random(1), {}
        for _ in range(6):
            world, standing = linked_world(source, ("one", "two"))
            shared = deed_lines(world, source.sample(standing.book.facts, 4))
            desks = []
            for _ in range(2):
                desk = told(*shared)
                for _ in range(7):
                    line = source.choice([f"tell {random_fact(source, world)}", "strike 0", f"strike {source.randint(0, 7)}",
                                          "drop two", "put two : a 0 0", "put three : a 0 0",
                                          "tell far three | 9"])
                    try:
                        desk(line)
                    except EyesError:
                        pass
                desks.append(desk)
            one, other = desks
            before = [state(one), state(other)]
            at = 0
            while at < min(len(one.story), len(other.story)) and one.story[at] == other.story[at]:
                at += 1
            wanted, refused = told(*one.story), []
            for index, line in list(enumerate(other.story))[at:]:
                try:
                    wanted(line)
                except EyesError:
                    refused.append(index)
            found, numbers = merged(one, other)
            self.assertEqual([state(found), numbers, parting(one, other)], [state(wanted), tuple(refused), at])
            self.assertEqual([state(one), state(other)], before)
            self.assertEqual(state(replay(found.story)), state(found))
            seen[bool(refused)] = True
        self.assertTrue(seen[True])

    def test_errors(self):
        desk = tiled()
        for value in (None, desk.story, "desk", Odd(), desk.book):
            for call in (merged, parting):
                self.bad(BadDesk, "one", call, value, value)
                self.bad(BadDesk, "other", call, desk, value)


if __name__ == "__main__":
    unittest.main()
