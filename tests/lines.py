"""Lines for a desk: told of worlds, and the answers that the functions themselves give."""

from alleyes.books import Book
from alleyes.clashes import clash
from alleyes.drawn import Drawn, drawn
from alleyes.errors import NotJoined
from alleyes.lacks import lacking
from alleyes.lamps import lamp_times
from alleyes.ranges import Even, stretch
from alleyes.reader import read_line
from alleyes.rows import Row
from alleyes.seconds import SecondEye, second_eye
from alleyes.standing import stand, together, way_of
from alleyes.steps import Mark
from alleyes.words import word_of
from tests.painting import any_step, random_fact, random_step
from tests.test_offers import random_saying


def deed_lines(world, facts):
    """The lines that put the pictures of a world and tell facts."""
    return [f"put {picture}" for picture in world.pictures()] + [f"tell {fact}" for fact in facts]


def ask_lines(source, world, many):
    """So many lines that ask about a world."""
    found = ["names", "facts", "book", "used", "waiting", "lacking", "clash"]
    while len(found) < many:
        name = source.choice(list(world.looks))
        one, other, third = [f"{name}.{point}" for point in source.sample(world.seen[name], 3)]
        away = f"{source.choice(list(world.looks))}.{world.seen[name][0]}"
        found.append(source.choice([
            lambda: f"show {name}", lambda: f"fact {source.randint(0, 9)}", lambda: f"try {random_fact(source, world)}",
            lambda: f"word {random_saying(source, world)}",
            lambda: f"way {any_step(source, world)}", lambda: f"together {any_step(source, world)} | {random_step(source, world, name)}",
            lambda: f"together {random_step(source, world, name)} | {random_step(source, world, name)}",
            lambda: f"depth {one} {other}", lambda: f"depth {one} {away}",
            lambda: f"drawn {Mark({one: 1, other: 1, third: -1})}", lambda: f"drawn {Mark.of_point(one)}", lambda: f"eye {name}",
            lambda: f"times {one} {other} {third}"])())
    return found


def spelled(values):
    return " ".join("-" if value is None else str(value) for value in values) or "-"


def answer(pictures, facts, line):
    """What the functions themselves answer; what they raise is raised."""
    word, *parts = read_line(line)
    if word == "names":
        return spelled(picture.name for picture in pictures)
    if word == "facts":
        return str(len(facts))
    book = Book(pictures, facts)
    if word == "show":
        return str(book.picture_of(parts[0]))
    if word == "fact":
        return str(facts[parts[0]])
    if word == "book":
        return stand(book).paper.word
    if word in ("used", "waiting"):
        standing = stand(book)
        standing.heap_of(pictures[0].name)
        return spelled(standing.used if word == "used" else standing.waiting)
    if word == "try":
        return stand(book.with_fact(parts[0])).paper.word
    if word == "word":
        return word_of(stand(book), parts[0]).word
    if word == "way":
        way = way_of(stand(book), parts[0])
        return "waits" if way is None else spelled(way.direction)
    if word == "together":
        ratio = together(stand(book), *parts)
        return "waits" if ratio is None else str(ratio)
    if word == "depth":
        names = [label.partition(".")[0] for label in parts]
        heap = stand(book).heap_of(names[0])
        if names[1] not in heap.names:
            raise NotJoined(*names)
        found = stretch(heap.cone, Row({parts[0]: 1}), Row({parts[1]: 1}))
        return str(found.number) if type(found) is Even else spelled([found.low, found.high])
    if word == "drawn":
        found = drawn(stand(book), parts[0])
        return f"{found.x} {found.y}" if type(found) is Drawn else found.word
    if word == "eye":
        found = second_eye(stand(book), parts[0])
        return spelled(found.parts) if type(found) is SecondEye else "open"
    if word == "lacking":
        return spelled(lack.number for lack in lacking(stand(book)))
    if word == "times":
        found = lamp_times(stand(book), *parts)
        return str(found.number) if type(found) is Even else spelled([found.low, found.high])
    found = clash(book)
    return "-" if found is None else spelled(found.numbers)
