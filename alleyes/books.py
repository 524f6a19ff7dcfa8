"""Books: pictures, and facts that are told of them."""

from alleyes.checks import first_twice, is_list, is_name, is_within
from alleyes.errors import BadBook, BadFact, BadText, NoFact, NoLabel, NoPicture, TooMany, Twice
from alleyes.facts import KINDS, Fact, Foot, Far, are_facts, fact_at
from alleyes.pictures import Picture, picture_at
from alleyes.steps import Mark, Step
from alleyes.texts import end_at, word_at, words_of
from alleyes.ties import check_points, is_doubled, points_of, tied_pairs

MOST_PICTURES = 4
MOST_FACTS = 60
PART = ";"


class Book:
    """Pictures, by names, and facts, by numbers."""

    def __init__(self, pictures, facts=()):
        if not _are_pictures(pictures):
            raise BadBook("pictures")
        if not are_facts(facts):
            raise BadBook("facts")
        if (twice := first_twice([picture.name for picture in pictures])) is not None:
            raise Twice(twice)
        self.pictures = tuple(pictures)
        self.facts = tuple(facts)
        self.names = tuple([picture.name for picture in pictures])
        self.labels = tuple(sorted([label for picture in pictures for label in picture.labels]))
        for fact in facts:
            check_fact_known(self, fact)
        self.points = points_of(_ties_among(facts))
        check_points(self.points)
        if len(pictures) > MOST_PICTURES:
            raise TooMany("pictures", MOST_PICTURES)
        if len(facts) > MOST_FACTS:
            raise TooMany("facts", MOST_FACTS)

    def picture_of(self, name):
        """The picture of this name."""
        check_picture_name(self, name)
        return [picture for picture in self.pictures if picture.name == name][0]

    def pairs(self, one, other):
        """The tied pairs of labels of two pictures."""
        check_picture_name(self, one)
        check_picture_name(self, other)
        if one == other:
            return ()
        return tuple(tied_pairs(self.points, self.picture_of(one).labels, other))

    def with_fact(self, fact):
        """The book with a fact behind the others."""
        if not isinstance(fact, Fact):
            raise BadFact("fact")
        return Book(self.pictures, (*self.facts, fact))

    def without(self, number):
        """The book without the fact of this number."""
        if not is_within(number, 0, len(self.facts) - 1):
            raise NoFact(number)
        return Book(self.pictures, (*self.facts[:number], *self.facts[number + 1:]))

    def joined(self, other):
        """The book with the pictures of another one that it lacks, and its facts."""
        if not isinstance(other, Book):
            raise BadBook("other")
        lacking = []
        for picture in other.pictures:
            if picture.name not in self.names:
                lacking.append(picture)
            elif self.picture_of(picture.name) != picture:
                raise Twice(picture.name)
        return Book((*self.pictures, *lacking), (*self.facts, *other.facts))

    def __eq__(self, other):
        return isinstance(other, Book) and self.pictures == other.pictures and self.facts == other.facts

    def __str__(self):
        return " ; ".join([str(part) for part in [*self.pictures, *self.facts]])

    @staticmethod
    def read(text):
        """The book with this text."""
        words = words_of(text)
        pictures, at = _pictures_in(words)
        known = {word: True for picture in pictures for word in (picture.name, *picture.labels)}
        facts = []
        while at < len(words) and words[at] == PART and len(facts) < MOST_FACTS:
            fact, behind = fact_at(words, at + 1, known)
            facts.append(fact)
            _check_tie_stands(facts, behind)
            at = behind
        end_at(words, at)
        return Book(pictures, facts)


def check_book(book):
    """BadBook for what is no book."""
    if not isinstance(book, Book):
        raise BadBook("book")


def check_picture_name(book, name):
    """NoPicture for any value that is no name of a picture of the book."""
    if not is_name(name) or name not in book.names:
        raise NoPicture(name)


def check_label_known(book, label):
    """NoLabel for any value that is no label of the book."""
    if not isinstance(label, str) or label not in book.labels:
        raise NoLabel(label)


def check_part_known(book, part):
    """NoPicture, NoLabel for the first, ascending, of a step or a mark that the book lacks."""
    if isinstance(part, Step) and part.side is not None:
        check_picture_name(book, part.picture_name)
        return
    for label, _ in part.terms:
        check_label_known(book, label)


def check_fact_known(book, fact):
    """NoPicture, NoLabel for the first of a fact that the book lacks, parameter by parameter."""
    for part in fact.parts:
        if isinstance(part, (Step, Mark)):
            check_part_known(book, part)
    if isinstance(fact, (Foot, Far)):
        check_picture_name(book, fact.name)
    for label in _tie_labels(fact):
        check_label_known(book, label)


def _tie_labels(fact):
    return fact.parts if fact.word == "tie" else ()


def _ties_among(facts):
    """The pairs of labels of the ties among some facts."""
    return [fact.parts for fact in facts if fact.word == "tie"]


def _are_pictures(value):
    """Whether any value is a list or tuple of one Picture or more."""
    return is_list(value) and len(value) > 0 and all([isinstance(picture, Picture) for picture in value])


def _pictures_in(words):
    """The pictures that the words write first, and the index behind them."""
    first, at = picture_at(words, 0)
    pictures = [first]
    while at < len(words) and words[at] == PART and _is_picture_at(words, at + 1):
        _check_picture_stands(words, at + 1, pictures)
        picture, at = picture_at(words, at + 1)
        pictures.append(picture)
    return pictures, at


def _is_picture_at(words, at):
    """Whether what begins there is a picture, not a fact."""
    if word_at(words, at) not in KINDS:
        return True
    return at + 1 < len(words) and words[at + 1] == ":"


def _check_picture_stands(words, at, pictures):
    """BadText if no picture of the name that stands there may follow the pictures."""
    name = words[at]
    if name in [picture.name for picture in pictures] or len(pictures) == MOST_PICTURES:
        raise BadText(0, at + 1 if name in KINDS else at)


def _check_tie_stands(facts, behind):
    """BadText for the last word of a tie that makes one point of two labels of a picture."""
    if facts[-1].word != "tie":
        return
    points = points_of(_ties_among(facts))
    if any([is_doubled(points[label]) for label in facts[-1].parts]):
        raise BadText(0, behind - 1)
