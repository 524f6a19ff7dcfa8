"""Words of sayings: beside scenes painted in space, and beside books in which what is said is told."""

import random
import unittest

from alleyes.books import Book
from alleyes.check_words import shows_word
from alleyes.cones import Above, AllZero, Lies, Mixed, NoScene, Zero
from alleyes.errors import BadSaying, BadStanding, Impossible, NoLabel, NoPicture
from alleyes.facts import Along, Far, Foot, InPlane, Lengths, Null, SameWay, Tie, Upright
from alleyes.papers import Denial, Paper
from alleyes.pictures import Picture
from alleyes.ratios import Ratio
from alleyes.sayings import AtLeast, Before, Blunt, Deeper, Longer, OnSide, Sharp, Shorter
from alleyes.standing import stand
from alleyes.steps import Mark, Step
from alleyes.words import Always, Both, Never, Waits, word_of
from tests.painting import any_step, box_nulls, cube_world, det, dot, holds, minus, random_step, random_world, ratio_of
from tests.painting import true_facts, true_ties
from tests.right_words import right_word
from tests.support import Checks, Odd
from tests.test_standing import AB, AD, AGAIN, CORNER, DC, EDGES, IMPOSSIBLE, JOINED, ONE, RIGHT, TILE, UP, between

LOOSE, PLAIN = stand(Book([ONE], [])), stand(Book([ONE], [Null(TILE)]))
FOOTED = stand(Book([ONE], [Null(TILE), Foot("one", 3, 0)]))
A, B, C, D = [f"one.{letter}" for letter in "abcd"]


def random_saying(source, world):
    """A saying that may hold, or not."""
    name = source.choice(list(world.looks))
    step, one, other = random_step(source, world, name), any_step(source, world), any_step(source, world)
    p, q, r = [f"{name}.{point}" for point in source.sample(world.seen[name], 3)]
    kind = source.choice(["null", "along", "same", "plane", "upright", "lengths", "deeper", "before", "side", "least", "sharp", "blunt",
                          "longer", "shorter"])
    if kind == "null":
        labels = [f"{name}.{point}" for point in source.sample(world.seen[name], 4)]
        return Null(Step(dict(zip(labels, (1, -1, 1, -1)))))
    if kind == "deeper":
        return Deeper(p, q)
    if kind == "before":
        return Before(Mark.on_way(p, q, Ratio(source.randint(-4, 6), 2)))
    if kind == "along":
        return Along(step, other)
    if kind == "same":
        return SameWay(step, other)
    if kind == "plane":
        return InPlane(step, one, other)
    if kind == "side":
        return OnSide(p, q, one, other, r)
    if kind == "least":
        return AtLeast(p, q, r, Ratio(source.randint(-2, 4), 2), one, other)
    if kind in ("upright", "sharp", "blunt"):
        return {"upright": Upright, "sharp": Sharp, "blunt": Blunt}[kind](one, other)
    call = {"lengths": Lengths, "longer": Longer, "shorter": Shorter}[kind]
    squares = [dot(world.led(each), world.led(each)) for each in (one, other)]
    return call(one, other, *([ratio_of(square) for square in squares] if source.random() < 0.5 else [source.randint(1, 2), 1]))


def can_be_asked(world, saying):
    """Whether the world tells if the saying holds: planes are planes, measured ways leave them."""
    if isinstance(saying, (OnSide, AtLeast)):
        steps = saying.steps
        ends = (saying.base, saying.mate) if isinstance(saying, OnSide) else (saying.one, saying.other)
        return det(world.led(steps[0]), world.led(steps[1]), minus(world.spot(ends[1]), world.spot(ends[0]))) != 0
    if isinstance(saying, (Lengths, Longer, Shorter)):
        # Axes of a look are as long as the test makes them; a right and an up are as long as one another.
        return all(step.side is None for step in saying.steps) or saying.one.picture_name == saying.other.picture_name
    return True


class WordsTest(unittest.TestCase, Checks):
    def test_example(self):
        self.assertEqual([word_of(LOOSE, Along(AB, DC)).word, word_of(LOOSE, Upright(AB, AD)) == Waits([AB, AD]),
                          word_of(PLAIN, Upright(AB, AD)).word, word_of(PLAIN, SameWay(AB, DC)).word], ["both", True, "both", "always"])
        self.assertEqual([word_of(FOOTED, saying).word for saying in
                          (Upright(AB, AD), Lengths(AB, AD), Longer(AD, AB), Sharp(AB, AD), Deeper("one.c", "one.b"))],
                         ["always", "never", "always", "never", "always"])
        self.assertEqual((word_of(PLAIN, OnSide(C, A, AB, UP, D)).word, str(Longer(AD, AB, 4))),
                         ("always", "longer one.a -1 one.d 1 | one.a -1 one.b 1 | 4 | 1"))

    def test_papers(self):
        for kind, name in ((Always, "papers"), (Both, "papers"), (Never, "papers"), (Waits, "steps")):
            paper = kind(**{name: [Lies({A: 1}), AB]})
            self.assertEqual([paper.word, getattr(paper, name), paper.parts], [kind.__name__.lower(), (Lies({A: 1}), AB), ((Lies({A: 1}), AB),)])
            self.assertEqual([bool(paper), isinstance(paper, Denial), isinstance(paper, Paper)], [kind is not Never, kind is Never, True])

    def test_kinds_of_papers(self):
        same, turned = SameWay(AB, DC), SameWay(AB, Step.between(C, D))
        self.assertEqual([[type(paper) for paper in word_of(PLAIN, saying).papers] for saying in (same, turned)], [[AllZero, Above], [NoScene]])
        both = word_of(LOOSE, SameWay(RIGHT, AB))
        self.assertEqual([both.word, [type(paper) for paper in both.papers]], ["both", [Lies, Lies]])
        # b is drawn up to the right of a, and as deep: of a step that surely goes along the right only the sense is open.
        level = Picture("one", {"a": (0, 0), "b": (0, 0), "c": (4, 2), "d": (2, 2)} | {"b": (1, 0)})
        along = stand(Book([level], [Along(AB, RIGHT)]))
        self.assertEqual(word_of(along, SameWay(AB, RIGHT)).word, "always")
        middle = Step({A: -1, B: Ratio(1, 2), C: Ratio(1, 2)})
        open_way = Picture("one", {"a": (1, 0), "b": (0, 0), "c": (4, 0)})
        flat = stand(Book([open_way], [Along(middle, RIGHT)]))
        word = word_of(flat, SameWay(middle, RIGHT))
        self.assertEqual([word.word, [type(paper) for paper in word.papers]], ["both", [Lies, Lies]])
        self.assertTrue(right_word(flat, SameWay(middle, RIGHT), word))
        self.assertEqual([type(word_of(flat, Along(middle, RIGHT)).papers[0]), type(word_of(LOOSE, InPlane(AB, RIGHT, UP)).papers[0])],
                         [AllZero, Mixed])

    def test_deeper_and_before(self):
        self.assertEqual([word_of(PLAIN, Deeper(one, other)).word for one, other in ((C, A), (A, C), (A, A), (A, B), (C, D))],
                         ["always", "never", "never", "never", "never"])
        self.assertEqual([word_of(LOOSE, Deeper(A, B)).word, word_of(PLAIN, Deeper(A, A)).papers], ["both", (Zero((0, 0, 0)),)])
        for mark, word in ((Mark.of_point(A), "always"), (Mark({D: 2, A: -1}), "always"), (Mark({A: 2, D: -1}), "never"),
                           (Mark({A: Ratio(3, 2), D: Ratio(-1, 2)}), "never")):
            self.assertEqual(word_of(PLAIN, Before(mark)).word, word)
        self.assertEqual(word_of(LOOSE, Before(Mark({A: 2, D: -1}))).word, "both")

    def test_sides_and_measures(self):
        self.assertEqual([word_of(PLAIN, OnSide(label, A, AB, UP, D)).word for label in (A, B, C, D)], ["never", "never", "always", "always"])
        self.assertEqual([word_of(PLAIN, OnSide(label, D, AB, UP, A)).word for label in (A, B, C, D)], ["always", "always", "never", "never"])
        self.assertEqual([word_of(PLAIN, OnSide(C, A, one, other, D)).word for one, other in ((UP, AB), (AB, UP))], ["always", "always"])
        for ratio, words in ((1, "always always never never"), (0, "always always always always"), (Ratio(1, 2), "always always never never"),
                             (2, "never never never never"), (-1, "always always always always")):
            self.assertEqual([word_of(PLAIN, AtLeast(label, A, D, ratio, AB, UP)).word for label in (C, D, A, B)], words.split())
        self.assertEqual([word_of(PLAIN, AtLeast(label, D, A, 1, AB, UP)).word for label in (A, B, C, D)], ["always", "always", "never", "never"])

    def test_waits(self):
        """For each reason, with just the steps that are due."""
        two = stand(Book([CORNER, AGAIN], EDGES))
        there, here = between("o", "a", "two"), between("o", "a")
        loose = between("a", "c")
        crossed = Step.between(A, D)
        for saying, steps in ((Along(here, there), [here, there]), (Upright(there, there), None), (SameWay(there, here), [there, here]),
                              (InPlane(here, here, there), [here, here, there]), (Lengths(here, Step.up_of("two")), [here, Step.up_of("two")]),
                              (OnSide("two.a", "two.b", here, UP, "two.o"), [here, UP]), (AtLeast("one.a", "one.b", "one.o", 1, UP, there), [UP, there]),
                              (Sharp(there, here), [there, here]), (Longer(RIGHT, there), [RIGHT, there])):
            word = word_of(two, saying)
            if steps is not None:
                self.assertEqual(word, Waits(steps))
            self.assertTrue(right_word(two, saying, word))
        for standing, saying, steps in ((LOOSE, Upright(AB, RIGHT), [AB]), (LOOSE, Upright(RIGHT, AB), [AB]), (LOOSE, Upright(AD, AB), [AD, AB]),
                                        (LOOSE, Upright(AB, AB), [AB]), (LOOSE, InPlane(DC, AB, UP), [AB]), (LOOSE, InPlane(DC, AB, AB), [AB]),
                                        (LOOSE, InPlane(DC, UP, UP), [DC, UP, UP]), (PLAIN, InPlane(crossed, AB, DC), [crossed, AB, DC]),
                                        (LOOSE, SameWay(AB, DC), [AB, DC]), (LOOSE, Along(AB * 2, DC), [AB * 2, DC]), (LOOSE, Along(AB, AB), [AB]),
                                        (LOOSE, Lengths(AB, UP), [AB]), (PLAIN, Lengths(AB, UP), [AB, UP]), (PLAIN, Longer(UP, AB), [UP, AB]),
                                        (LOOSE, Shorter(AB, AD), [AB, AD]), (LOOSE, Sharp(UP, AB), [AB]), (LOOSE, Blunt(AB, UP), [AB]),
                                        (LOOSE, OnSide(C, A, AB, UP, D), [AB]), (LOOSE, OnSide(C, A, UP, UP, D), [UP, UP]),
                                        (LOOSE, OnSide(C, A, RIGHT, UP, D), [AD]), (PLAIN, OnSide(C, A, AB, UP, B), [AB]),
                                        (PLAIN, OnSide(C, A, AB, DC, D), [AB, DC]), (LOOSE, AtLeast(C, A, D, 1, AB, AD), [AB, AD]),
                                        (LOOSE, AtLeast(C, A, B, 1, UP, RIGHT), [AB]), (PLAIN, AtLeast(C, D, A, 1, RIGHT, RIGHT), [RIGHT, RIGHT]),
                                        (PLAIN, AtLeast(D, A, B, 0, RIGHT, UP), [AB])):
            self.assertEqual(word_of(standing, saying), Waits(steps), str(saying))
            self.assertTrue(right_word(standing, saying, word_of(standing, saying)))
        self.assertEqual(loose.picture_name, "one")

    def test_mates_that_lie_in_the_plane(self):
        """The row of a mate that is zero, or mixed, is lacking."""
        ac = Step.between(A, C)
        self.assertEqual(word_of(PLAIN, OnSide(D, A, AB, AD, C)), Waits([ac]))
        mixed = stand(Book([ONE], []))
        self.assertEqual(word_of(mixed, OnSide(D, A, RIGHT, UP, C)), Waits([ac]))

    def test_joined(self):
        """Steps of two pictures of one heap have a home in common."""
        here, there = between("o", "a"), between("o", "a", "two")
        for saying, word in ((SameWay(here, there), "always"), (SameWay(there, between("a", "o")), "never"), (Along(there, RIGHT), "always"), (Along(there, UP), "never"),
                             (Lengths(here, there), "always"), (Upright(here, between("o", "c", "two")), "never"), (Lengths(here, between("o", "c", "two")), "both"), (Longer(here, there), "never"),
                             (InPlane(there, here, between("o", "b")), "always"), (OnSide("two.d", "two.o", here, between("o", "c"), "two.b"), "always"),
                             (AtLeast("two.d", "two.o", "two.b", 1, here, between("o", "c")), "always"), (Upright(here, between("o", "b")), "always"),
                             (Deeper("two.e", "two.a"), "always"), (Before(Mark({"two.a": 2, "two.e": -1})), "always")):
            found = word_of(JOINED, saying)
            self.assertEqual(found.word, word, str(saying))
            self.assertTrue(right_word(JOINED, saying, found) and shows_word(JOINED, saying, found))

    def test_painted(self):
        """What is always holds at the painted scene, what is never fails; the papers are right."""
        source, seen = random.Random(11), {}
        for _ in range(40):
            world = self.some_world(source)
            facts = self.some_facts(source, world)
            standing = stand(Book(world.pictures(), facts))
            self.assertTrue(standing.is_possible)
            for _ in range(25):
                saying = random_saying(source, world)
                found = word_of(standing, saying)
                kind = type(saying).__name__
                seen[kind, found.word] = seen.get((kind, found.word), 0) + 1
                self.assertTrue(right_word(standing, saying, found), str(saying))
                self.assertIs(shows_word(standing, saying, found), True)
                if found.word in ("always", "never") and can_be_asked(world, saying):
                    self.assertEqual(holds(world, saying), found.word == "always", (str(saying), str(standing.book)))
        self.assertGreater(len(seen), 40)

    def some_world(self, source):
        if source.random() < 0.3:
            return random_world(source, source.randint(4, 6), straight=source.random() < 0.5)
        return cube_world(source, source.choice([("one",), ("one", "two")]), straight=source.random() < 0.6)

    def some_facts(self, source, world):
        facts = true_facts(source, world, source.randint(0, 5))
        if len(world.spots) == 8:
            facts = facts + [fact for name in world.looks for fact in box_nulls(world, name) if source.random() < 0.85]
        return facts + true_ties(world)

    def test_told(self):
        """A saying that is always changes no word when it is told; never makes all impossible; both leaves it possible."""
        source, seen = random.Random(12), {}
        for _ in range(30):
            world = self.some_world(source)
            standing = stand(Book(world.pictures(), self.some_facts(source, world)))
            others = [random_saying(source, world) for _ in range(6)]
            for _ in range(8):
                saying = random_saying(source, world)
                if not isinstance(saying, (Null, Along, SameWay, InPlane, Upright, Lengths)):
                    continue
                word = word_of(standing, saying).word
                told = stand(standing.book.with_fact(saying))
                if word == "never":
                    self.assertFalse(told.is_possible, str(saying))
                elif word == "always":
                    self.assertTrue(told.is_possible)
                    self.assertEqual([word_of(told, other).word for other in others], [word_of(standing, other).word for other in others])
                elif word == "both" and not standing.waiting:
                    self.assertTrue(told.is_possible)
                    self.assertEqual(word_of(told, saying).word, "always")
                seen[word, type(saying).__name__] = True
                if told.is_possible:
                    for other in others:
                        before = word_of(standing, other).word
                        if before in ("always", "never"):
                            self.assertEqual(word_of(told, other).word, before)
        self.assertGreater(len(seen), 12)

    def test_upright_never(self):
        """Where upright is never, sharp or blunt is always; where lengths is never, longer or shorter."""
        source, seen = random.Random(13), 0
        for _ in range(20):
            world = cube_world(source, straight=source.random() < 0.5)
            a, b, s = world.looks["one"].eye()
            facts = [*box_nulls(world, "one"), Foot("one", ratio_of(a), ratio_of(b))] + ([Far("one", ratio_of(s))] if source.random() < 0.7 else [])
            standing = stand(Book(world.pictures(), facts))
            for _ in range(10):
                one, other = any_step(source, world), any_step(source, world)
                p = source.randint(1, 4)
                for saying, less, more in ((Upright(one, other), Sharp(one, other), Blunt(one, other)),
                                           (Lengths(one, other, p), Longer(one, other, p), Shorter(one, other, p))):
                    words = [word_of(standing, each).word for each in (saying, less, more)]
                    if words[0] == "never":
                        seen += 1
                        self.assertEqual(sorted(words[1:]), ["always", "never"])
                    elif words[0] == "always":
                        self.assertEqual(words[1:], ["never", "never"])
        self.assertGreater(seen, 20)

    def test_equal_answers(self):
        again = stand(Book([ONE], [Null(TILE)]))
        for saying in (Along(AB, AD), SameWay(AB, DC), Upright(AB, AD), Deeper(C, A), OnSide(C, A, AB, UP, D)):
            self.assertEqual(word_of(again, saying), word_of(PLAIN, saying))

    def test_errors(self):
        lost, away = Step.between("one.z", "one.y"), Step.up_of("six")
        for value in (None, PLAIN.book, PLAIN.paper, Odd()):
            self.bad(BadStanding, "standing", word_of, value, None)
        for standing in (PLAIN, *IMPOSSIBLE.values()):
            for value in (None, AB, "null one.a 1 one.b -1", Foot("one", 1, 1), Far("one", 1), Tie("one.a", "two.a"), Odd()):
                self.bad(BadSaying, "saying", word_of, standing, value)
            for saying, error, name in ((Along(lost, away), NoLabel, "one.y"), (Upright(away, lost), NoPicture, "six"),
                                        (Deeper("one.z", "one.y"), NoLabel, "one.z"), (Deeper("one.a", "one.y"), NoLabel, "one.y"),
                                        (Before(Mark({"one.z": 2, "one.y": -1})), NoLabel, "one.y"), (Null(lost), NoLabel, "one.y"),
                                        (OnSide("one.a", "one.y", away, UP, "one.z"), NoLabel, "one.y"),
                                        (OnSide("one.a", "one.b", away, lost, "one.z"), NoPicture, "six"),
                                        (OnSide("one.a", "one.b", AB, UP, "one.z"), NoLabel, "one.z"),
                                        (AtLeast("one.a", "one.b", "one.y", 1, away, lost), NoLabel, "one.y"),
                                        (AtLeast("one.a", "one.b", "one.o", 1, UP, away), NoLabel if standing.book.pictures[0] == ONE else NoPicture,
                                         "one.o" if standing.book.pictures[0] == ONE else "six"),
                                        (InPlane(AB, lost, away), NoLabel, "one.y"), (Longer(away, lost), NoPicture, "six")):
                self.raised(error, {"name": name}, word_of, standing, saying)
        for word, standing in IMPOSSIBLE.items():
            self.raised(Impossible, {"word": word}, word_of, standing, Upright(AB, UP))


if __name__ == "__main__":
    unittest.main()
