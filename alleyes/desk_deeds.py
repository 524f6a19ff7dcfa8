"""Deeds of a desk: lines that change which pictures and which facts are kept."""

from alleyes.books import Book, check_picture_name
from alleyes.checks import is_list
from alleyes.clashes import check_fact_numbers
from alleyes.errors import BadFact, BadPicture, BadText, Nothing
from alleyes.facts import are_facts
from alleyes.fitting import names_in
from alleyes.pictures import Picture
from alleyes.reader import ASKS, first_word, read_line


def changed(pictures, facts, line):
    """The pictures and the facts behind a deed line, and the answer to it."""
    check_kept(pictures, facts)
    if first_word(line) in ASKS:
        raise BadText(0, 0)
    deed, *parts = list(read_line(line))
    book = book_kept(pictures, facts)
    if deed == "put":
        newer = Book([*pictures, *parts], facts)
        return newer.pictures, newer.facts, str(len(newer.pictures))
    if book is None:
        raise Nothing()
    if deed == "drop":
        return _dropped(book, parts[0])
    if deed == "tell":
        told = book.with_fact(parts[0])
        return told.pictures, told.facts, str(len(book.facts))
    if deed == "light":
        lighter = Book(book.pictures, [*book.facts, *parts[0].facts])
        return lighter.pictures, lighter.facts, str(len(lighter.facts))
    check_fact_numbers(book, parts)
    kept = tuple([fact for number, fact in enumerate(book.facts) if number not in parts])
    return book.pictures, kept, str(len(kept))


def check_kept(pictures, facts):
    """BadPicture, BadFact for what are no lists of pictures and of facts, perhaps none."""
    if not is_list(pictures) or not all([isinstance(picture, Picture) for picture in pictures]):
        raise BadPicture("pictures")
    if not are_facts(facts):
        raise BadFact("facts")


def book_kept(pictures, facts):
    """The book of what is kept; None without a picture."""
    if len(pictures) == 0:
        return None
    return Book(pictures, facts)


def _dropped(book, name):
    """What is left without the picture of this name, and the facts that name it."""
    check_picture_name(book, name)
    pictures = tuple([picture for picture in book.pictures if picture.name != name])
    facts = tuple([fact for fact in book.facts if name not in names_in(fact)])
    return pictures, facts, str(len(facts))
