"""Texts: words with single blanks between."""

from alleyes.errors import BadText

BAR = "|"
ENDS = ("|", ";")


def words_of(text):
    """The words of a text; BadText(0, 0) for what is no string."""
    if not isinstance(text, str):
        raise BadText(0, 0)
    return text.split(" ")


def word_at(words, at):
    """The word of this index; BadText if it is missing."""
    if at >= len(words):
        raise BadText(0, at)
    return words[at]


def end_at(words, at):
    """BadText if there is still a word of this index."""
    if at < len(words):
        raise BadText(0, at)


def is_end(words, at):
    """Whether the words end there, or a part of a longer text does."""
    return at >= len(words) or words[at] in ENDS


def check_known(known, words, at):
    """BadText for the word of a label or a name that is none of the known ones; None knows all."""
    if known is not None and words[at] not in known:
        raise BadText(0, at)
