"""Lights: the facts that shadows of the sun and of a lamp tell, and what water and mirrors show."""

from alleyes.books import Book, check_book
from alleyes.checks import is_list, picture_of
from alleyes.errors import BadLight, BadText
from alleyes.facts import InPlane, SameWay, Upright, parts_text
from alleyes.parts import behind_bar, label_word, parts_at
from alleyes.ratios import Ratio
from alleyes.steps import Step, check_step
from alleyes.terms import check_labels, joined_terms
from alleyes.texts import end_at, word_at, words_of

PAIR = "/"
HEADS = {
    "sun": (),
    "lamp": ("step", "step", "label"),
    "water": ("label", "step", "step", "step"),
    "mirror": ("label", "step", "step"),
}


class Light:
    """What all lights have: a word, their parts, the last of which are pairs, and their facts."""

    def __init__(self, word, parts, facts):
        self.word = word
        self.parts = parts
        self.facts = facts

    def __len__(self):
        return len(self.facts)

    def __eq__(self, other):
        return type(self) is type(other) and self.parts == other.parts

    def __str__(self):
        return str(light_text(self.word, self.parts))

    @staticmethod
    def read(text):
        """The light with this text."""
        words = words_of(text)
        return _whole_light(words, words[0])


class Sun(Light):
    """Pairs of a top and the end of its shadow."""

    def __init__(self, pairs):
        self.pairs = _pairs_of(pairs, "pairs")
        ways = [Step.between(top, end) for top, end in self.pairs]
        facts = [SameWay(ways[0], way) for way in ways[1:]]
        super().__init__("sun", (self.pairs,), tuple(facts))

    def __len__(self):
        return len(self.facts)

    def __eq__(self, other):
        return type(self) is type(other) and self.parts == other.parts

    def __str__(self):
        return str(light_text(self.word, self.parts))

    @staticmethod
    def read(text):
        """The sun with this text."""
        return _whole_light(words_of(text), "sun")


class Lamp(Light):
    """A lamp over a floor along two steps, its foot there, and pairs of a post's foot and the end of its shadow."""

    def __init__(self, one, other, foot, posts):
        check_step(one, "one")
        check_step(other, "other")
        check_labels([foot])
        self.one = one
        self.other = other
        self.foot = foot
        self.posts = _pairs_of(posts, "posts")
        facts = []
        for post, end in self.posts:
            near, far = Step.between(foot, post), Step.between(post, end)
            facts = [*facts, InPlane(near, one, other), InPlane(far, one, other), SameWay(near, far)]
        super().__init__("lamp", (one, other, foot, self.posts), tuple(facts))

    def __len__(self):
        return len(self.facts)

    def __eq__(self, other):
        return type(self) is type(other) and self.parts == other.parts

    def __str__(self):
        return str(light_text(self.word, self.parts))

    @staticmethod
    def read(text):
        """The lamp with this text."""
        return _whole_light(words_of(text), "lamp")


class Water(Light):
    """Water through a base along two steps, a step that goes straight up, and pairs of a thing and what is seen."""

    def __init__(self, base, one, other, upright, pairs):
        check_labels([base])
        check_step(one, "one")
        check_step(other, "other")
        check_step(upright, "upright")
        self.base = base
        self.one = one
        self.other = other
        self.upright = upright
        self.pairs = _pairs_of(pairs, "pairs")
        facts = []
        for thing, seen in self.pairs:
            middle, rise = _middle_of(base, thing, seen), Step.between(seen, thing)
            facts = [*facts, InPlane(middle, one, other), SameWay(rise, upright)]
        super().__init__("water", (base, one, other, upright, self.pairs), tuple(facts))

    def __len__(self):
        return len(self.facts)

    def __eq__(self, other):
        return type(self) is type(other) and self.parts == other.parts

    def __str__(self):
        return str(light_text(self.word, self.parts))

    @staticmethod
    def read(text):
        """The water with this text."""
        return _whole_light(words_of(text), "water")


class Mirror(Light):
    """A mirror through a base along two steps, and pairs of a thing and what is seen of it."""

    def __init__(self, base, one, other, pairs):
        check_labels([base])
        check_step(one, "one")
        check_step(other, "other")
        self.base = base
        self.one = one
        self.other = other
        self.pairs = _pairs_of(pairs, "pairs")
        both = [(_middle_of(base, thing, seen), Step.between(thing, seen)) for thing, seen in self.pairs]
        middles, ways = [middle for middle, _ in both], [way for _, way in both]
        facts = [InPlane(middle, one, other) for middle in middles] + [SameWay(ways[0], way) for way in ways[1:]]
        facts = [*facts, Upright(ways[0], one), Upright(ways[0], other)]
        super().__init__("mirror", (base, one, other, self.pairs), tuple(facts))

    def __len__(self):
        return len(self.facts)

    def __eq__(self, other):
        return type(self) is type(other) and self.parts == other.parts

    def __str__(self):
        return str(light_text(self.word, self.parts))

    @staticmethod
    def read(text):
        """The mirror with this text."""
        return _whole_light(words_of(text), "mirror")


def lit(book, *lights):
    """The book with the facts of all lights behind its own."""
    check_book(book)
    if not all([isinstance(light, Light) for light in lights]):
        raise BadLight("lights")
    return Book(book.pictures, [*book.facts, *[fact for light in lights for fact in light.facts]])


def light_text(word, parts):
    """The word, then the parts with the word | between, the pairs last."""
    listed = " / ".join([f"{one} {other}" for one, other in parts[-1]])
    return parts_text(word, (*parts[:-1], listed))


def light_at(words, at, known):
    """The light, of known labels and names, that words from at on write, and the index behind it."""
    word = word_at(words, at)
    if word not in HEADS:
        raise BadText(0, at)
    parts, behind = parts_at(words, at + 1, HEADS[word], known)
    if parts:
        behind = behind_bar(words, behind)
    pairs, behind = _pairs_at(words, behind, word, parts, known)
    return _light_of(word, [*parts, pairs]), behind


def _whole_light(words, word):
    """The light of a kind that all words write."""
    if words[0] != word:
        raise BadText(0, 0)
    light, behind = light_at(words, 0, None)
    end_at(words, behind)
    return light


def _light_of(word, parts):
    """The light of a kind with these parts."""
    if word == "sun":
        return Sun(*parts)
    if word == "lamp":
        return Lamp(*parts)
    if word == "water":
        return Water(*parts)
    return Mirror(*parts)


def _pairs_at(words, start, word, parts, known):
    """The pairs of labels that words from start on write, a / between two of them, and the index behind."""
    pairs, at = [], start
    while True:
        first = label_word(words, at, known)
        anchors = [part for part in parts if isinstance(part, str)]
        if anchors and (picture_of(first) != picture_of(anchors[0]) or (word == "lamp" and first == anchors[0])):
            raise BadText(0, at)
        second = label_word(words, at + 1, known)
        if picture_of(second) != picture_of(first) or second == first:
            raise BadText(0, at + 1)
        pairs.append((first, second))
        at = at + 2
        if at == len(words) or words[at] != PAIR:
            return pairs, at
        at = at + 1


def _pairs_of(value, part):
    """The tuple of the pairs of labels of an argument."""
    if not is_list(value) or len(value) == 0 or not all([is_list(pair) and len(pair) == 2 for pair in value]):
        raise BadLight(part)
    check_labels([label for pair in value for label in pair])
    return tuple([tuple(pair) for pair in value])


def _middle_of(base, thing, seen):
    """The step from the base to the middle of a thing and what is seen of it."""
    terms = {base: Ratio(-1)}
    for label in (thing, seen):
        terms = joined_terms(list(terms.items()), [(label, Ratio(1, 2))], 1)
    return Step(terms)
