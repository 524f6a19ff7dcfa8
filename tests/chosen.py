"""Books that are impossible in several ways, and offers, for tests of choice."""

from alleyes.books import Book
from alleyes.facts import Along, Far, Foot, Lengths, SameWay, Upright
from tests.painting import any_step, box_nulls, cube_world, random_fact, random_step, ratio_of, true_ties


def false_fact(source, world):
    """A fact that is not true of the world."""
    while True:
        kind = source.choice(["any", "sameway", "along", "upright", "lengths", "foot", "far"])
        name = source.choice(list(world.looks))
        step, other = random_step(source, world, name), any_step(source, world)
        a, b, s = [ratio_of(part) for part in world.looks[name].eye()]
        fact = {"any": lambda: random_fact(source, world), "sameway": lambda: SameWay(step, other), "along": lambda: Along(step, other),
                "upright": lambda: Upright(step, other), "lengths": lambda: Lengths(step, other, source.randint(1, 3), 1),
                "foot": lambda: Foot(name, a + source.randint(0, 2), b), "far": lambda: Far(name, s + source.randint(1, 3))}[kind]()
        if not world.is_true(fact):
            return fact


def bent_book(source, names=("one",), false=2, most=10):
    """A book of pictures of a box with true facts and false ones, in any order."""
    world = cube_world(source, names)
    nulls = [fact for name in names for fact in box_nulls(world, name)]
    facts = nulls + true_ties(world)
    if len(facts) > most:
        facts = source.sample(facts, most)
    facts = facts[:most - false] + [false_fact(source, world) for _ in range(false)]
    source.shuffle(facts)
    return Book(world.pictures(), facts)


def mirrored_book(source):
    """A book whose second picture is a mirrored one, so that four tied pairs bar."""
    world = cube_world(source, ("one", "two"))
    one, two = world.pictures()
    nulls = [*box_nulls(world, "one")[:3:2], *box_nulls(world, "two")[:3:2]]
    facts = nulls + [fact for fact in true_ties(world) if fact.one in ("one.a", "one.b", "one.c", "one.e", "one.d", "one.g")]
    source.shuffle(facts)
    return Book([one, two.mirrored()], facts)


def full_book(pictures, facts, many):
    """A book with facts told again, up to so many."""
    return Book(pictures, [facts[number % len(facts)] for number in range(many)])
