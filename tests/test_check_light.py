"""Checks of light: shadows, times of lamps, slid and mirrored marks; bent papers are taken exactly if they are right."""

import random
import unittest

from alleyes.books import Book
from alleyes.check_light import shows_mirrored, shows_shadow, shows_slid, shows_times
from alleyes.errors import BadMark, BadStanding, BadStep, Impossible, NoLabel, NotJoined, TwoPictures, Unsettled
from alleyes.facts import Null
from alleyes.lamps import lamp_times
from alleyes.mirrors import mirrored, mirrored_place, slid, slid_place
from alleyes.ratios import Ratio
from alleyes.standing import stand, way_of
from alleyes.steps import Mark, Step
from alleyes.sun import shadow_mark
from alleyes.words import Always, Waits
from tests.bending import parts_bent
from tests.right_cones import right_stretch
from tests.right_drawn import right_drawn
from tests.support import Checks, Odd
from tests.test_check_standing import NO_PAPERS
from tests.test_lamps import LIT, WARD
from tests.test_mirrors import GROUND, RIGHT, UP
from tests.test_standing import AGAIN, CORNER, EDGES, IMPOSSIBLE, TILE, between
from tests.test_sun import HERE, NAMES, YARD

LOOSE = stand(Book(YARD.pictures, YARD.facts[:1]))
FLAT = stand(Book([WARD], [Null(TILE)]))


class CheckLightTest(unittest.TestCase, Checks):
    def test_shadows(self):
        mark, post, mate = shadow_mark(HERE, *NAMES), between("d", "u"), between("a", "t")
        self.assertIs(shows_shadow(HERE, *NAMES, mark), True)
        self.assertIs(shows_shadow(HERE, *NAMES, value=Mark({"one.a": -1, "one.b": Ratio(1), "one.d": 1})), True)
        self.assertIs(shows_shadow(LOOSE, *NAMES, Waits([post, mate])), True)
        self.assertIs(shows_shadow(standing=LOOSE, top="one.u", foot="one.d", lit_top="one.t", lit_foot="one.a", lit_end="one.b",
                                   value=Waits((post, mate))), True)
        for value in (*NO_PAPERS, str(mark), mark.terms, Mark.of_point("one.a"), Mark({"one.a": -1, "one.b": 2}), Waits([post, mate]),
                      Waits(()),
                      Step({"one.a": -1, "one.b": 1})):
            self.assertIs(shows_shadow(HERE, *NAMES, value), False)
        for value in (*NO_PAPERS, mark, Waits([mate, post]), Waits([post]), Waits([mate]), Waits([post, mate, post]),
                      Waits([str(post), str(mate)]),
                      Always([post, mate]), Waits(()), Waits(None)):
            self.assertIs(shows_shadow(LOOSE, *NAMES, value), False)

    def test_times(self):
        source, taken = random.Random(1), 0
        for standing, labels in ((LIT, ("one.a", "one.b", "one.e")), (LIT, ("one.b", "one.a", "one.e")),
                                 (FLAT, ("one.b", "one.b", "one.a"))):
            paper = lamp_times(standing, *labels)
            self.assertIs(shows_times(standing, *labels, paper), True)
            cone = standing.heaps[0].cone
            top, under = [way_of(standing, Step.between(labels[2], label)).factor for label in labels[:2]]
            for _ in range(300):
                bent = type(paper)(*parts_bent(paper.parts, source))
                wanted = right_stretch(cone, top, under, bent)
                taken += wanted
                self.assertIs(shows_times(standing, *labels, bent), wanted, bent.parts)
            for value in NO_PAPERS:
                self.assertIs(shows_times(standing, *labels, value), False)
        self.assertGreater(taken, 3)
        self.assertIs(shows_times(standing=LIT, foot="one.a", post="one.b", end="one.e", value=None), False)

    def test_slid_and_mirrored(self):
        source, taken, words = random.Random(2), 0, {}
        cone = HERE.heaps[0].cone
        for mark, ray in ((Mark.of_point("one.t"), UP), (Mark.of_point("one.u"), between("t", "b")),
                          (Mark.of_point("one.c"), between("t", "b")),
                          (Mark({"one.t": 3, "one.b": -2}), UP), (Mark({"one.u": -1, "one.a": 2}), between("t", "a"))):
            for form_of, place_of, shows in ((slid, slid_place, shows_slid), (mirrored, mirrored_place, shows_mirrored)):
                form, paper = form_of(HERE, mark, *GROUND, ray), place_of(HERE, mark, *GROUND, ray)
                words[paper.word] = True
                self.assertIs(shows(HERE, mark, *GROUND, ray, paper), True)
                for _ in range(150):
                    bent = type(paper)(*parts_bent(paper.parts, source))
                    wanted = right_drawn(cone, form, bent)
                    taken += wanted
                    self.assertIs(shows(HERE, mark, *GROUND, ray, bent), wanted, bent.parts)
                for value in NO_PAPERS:
                    self.assertIs(shows(HERE, mark, *GROUND, ray, value), False)
                other = (mirrored_place if form_of is slid else slid_place)(HERE, mark, *GROUND, ray)
                self.assertIs(shows(HERE, mark, *GROUND, ray, other), right_drawn(cone, form, other))
        self.assertGreater(taken, 3)
        self.assertGreater(len(words), 1)
        one, other = GROUND[1:]
        self.assertIs(shows_slid(standing=HERE, mark=Mark.of_point("one.t"), base="one.a", one=one, other=other, ray=UP, value=Odd()),
                      False)
        self.assertIs(shows_mirrored(standing=HERE, mark=Mark.of_point("one.t"), base="one.a", one=one, other=other, upright=UP,
                                     value=1), False)

    def test_errors(self):
        two = stand(Book([CORNER, AGAIN], EDGES))
        mark = Mark.of_point("one.a")
        for value in (None, Odd()):
            self.bad(BadStanding, "standing", shows_shadow, value, *[None] * 6)
            self.bad(BadStanding, "standing", shows_times, value, *[None] * 4)
            self.bad(BadStanding, "standing", shows_slid, value, *[None] * 6)
            self.bad(BadStanding, "standing", shows_mirrored, value, *[None] * 6)
        self.raised(NoLabel, {"name": "one.z"}, shows_shadow, HERE, "one.a", "one.z", *[None] * 4)
        self.raised(TwoPictures, {"one": "one", "other": "two"}, shows_shadow, two, "one.a", "one.b", "one.a", "two.b", "two.a", None)
        self.bad(BadStep, "sum", shows_shadow, two, "one.a", "one.a", "one.a", "one.b", "one.c", None)
        self.raised(NoLabel, {"name": None}, shows_times, HERE, "one.a", None, None, None)
        self.raised(TwoPictures, {"one": "one", "other": "two"}, shows_times, two, "one.a", "two.b", "one.a", None)
        self.bad(BadStep, "sum", shows_times, two, "one.a", "one.b", "one.a", None)
        bare = stand(Book([CORNER]))
        self.bad(Unsettled, "foot", shows_times, bare, "one.a", "one.b", "one.o", None)
        self.bad(Unsettled, "end", shows_times, two, "one.a", "one.b", "one.o", None)
        for shows, last in ((shows_slid, "ray"), (shows_mirrored, "upright")):
            self.bad(BadMark, "mark", shows, HERE, None, *[None] * 5)
            self.raised(NoLabel, {"name": "one.z"}, shows, HERE, mark, "one.z", *[None] * 4)
            self.bad(BadStep, last, shows, HERE, mark, "one.a", UP, UP, None, None)
            self.raised(TwoPictures, {"one": "one", "other": "two"}, shows, two, mark, "two.a", UP, UP, UP, None)
            self.raised(NotJoined, {"one": "one", "other": "two"}, shows, two, mark, "one.a", UP, UP, Step.up_of("two"), None)
            self.bad(Unsettled, last, shows, two, mark, "one.a", UP, RIGHT, UP, None)
        for word, standing in IMPOSSIBLE.items():
            fields = {"word": word}
            self.raised(Impossible, fields, shows_shadow, standing, "one.a", "one.b", "one.a", "one.b", "one.c", None)
            self.raised(Impossible, fields, shows_times, standing, "one.a", "one.b", "one.c", None)
            self.raised(Impossible, fields, shows_slid, standing, mark, "one.a", UP, UP, UP, None)
            self.raised(Impossible, fields, shows_mirrored, standing, mark, "one.a", UP, UP, UP, None)


if __name__ == "__main__":
    unittest.main()
