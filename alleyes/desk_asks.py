"""Asks of a desk: lines that tell of what is kept, and change nothing."""

from alleyes.books import check_label_known
from alleyes.checks import picture_of
from alleyes.clashes import check_fact_numbers, clash
from alleyes.desk_deeds import book_kept, check_kept
from alleyes.drawn import Drawn, drawn
from alleyes.errors import BadText, NotJoined, Nothing
from alleyes.lacks import lacking
from alleyes.lamps import lamp_times
from alleyes.ranges import Even, stretch
from alleyes.reader import DEEDS, first_word, read_line
from alleyes.rows import Row
from alleyes.seconds import SecondEye, second_eye
from alleyes.standing import check_stands, heap_among, stand, together, way_of
from alleyes.words import word_of

NONE = "-"
WAITS = "waits"
OPEN = "open"


def answer_of(pictures, facts, line):
    """The answer to an ask line."""
    check_kept(pictures, facts)
    if first_word(line) in DEEDS:
        raise BadText(0, 0)
    ask, *parts = list(read_line(line))
    book = book_kept(pictures, facts)
    if ask == "names":
        return _listed([picture.name for picture in pictures])
    if ask == "facts":
        return str(len(facts))
    if book is None:
        raise Nothing()
    if ask == "show":
        return str(book.picture_of(parts[0]))
    if ask == "fact":
        check_fact_numbers(book, parts)
        return str(book.facts[parts[0]])
    if ask == "try":
        return stand(book.with_fact(parts[0])).paper.word
    if ask == "clash":
        found = clash(book)
        return _listed([] if found is None else found.numbers)
    return _answer_of_standing(stand(book), ask, parts)


def _answer_of_standing(standing, ask, parts):
    """The answer to an ask line about what stands."""
    if ask == "book":
        return standing.paper.word
    if ask == "word":
        return word_of(standing, parts[0]).word
    if ask == "way":
        way = way_of(standing, parts[0])
        return WAITS if way is None else _listed(way.direction)
    if ask == "together":
        ratio = together(standing, parts[0], parts[1])
        return WAITS if ratio is None else str(ratio)
    if ask == "depth":
        return _depth(standing, parts[0], parts[1])
    if ask == "drawn":
        place = drawn(standing, parts[0])
        return _listed([place.x, place.y]) if type(place) is Drawn else place.word
    if ask == "eye":
        eye = second_eye(standing, parts[0])
        return _listed(eye.parts) if type(eye) is SecondEye else OPEN
    if ask == "times":
        return _range_text(lamp_times(standing, parts[0], parts[1], parts[2]))
    check_stands(standing)
    if ask == "lacking":
        return _listed([lack.number for lack in lacking(standing)])
    return _listed(standing.used if ask == "used" else standing.waiting)


def _depth(standing, one, other):
    """How deep a label is over another one."""
    check_label_known(standing.book, one)
    check_label_known(standing.book, other)
    check_stands(standing)
    heap = heap_among(standing.heaps, picture_of(one))
    if picture_of(other) not in heap.names:
        raise NotJoined(picture_of(one), picture_of(other))
    return _range_text(stretch(heap.cone, Row({one: 1}), Row({other: 1})))


def _range_text(paper):
    """The number of an Even, or the ends of a Stretch."""
    if type(paper) is Even:
        return str(paper.number)
    return _listed([paper.low, paper.high])


def _listed(values):
    """Values with single blanks between, - for one that is None, or if there are none."""
    texts = [NONE if value is None else str(value) for value in values]
    return " ".join(texts) if texts else NONE
