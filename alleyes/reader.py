"""Reading lines of a desk: their first word, and what the others stand for."""

from alleyes.errors import BadText
from alleyes.facts import fact_at
from alleyes.lights import light_at
from alleyes.parts import behind_bar, label_word, name_at, step_at
from alleyes.pictures import picture_at
from alleyes.ratios import ratio_at
from alleyes.sayings import saying_at
from alleyes.steps import Mark
from alleyes.terms import terms_at
from alleyes.texts import end_at, words_of

DEEDS = ("put", "drop", "tell", "light", "strike")
ASKS = ("names", "show", "fact", "facts", "book", "used", "waiting", "try", "word", "way", "together", "depth", "drawn",
        "eye", "lacking", "times", "clash")
KINDS_BEHIND = {
    "put": ("picture",),
    "drop": ("name",),
    "tell": ("fact",),
    "light": ("light",),
    "strike": ("numbers",),
    "names": (),
    "show": ("name",),
    "fact": ("number",),
    "facts": (),
    "book": (),
    "used": (),
    "waiting": (),
    "try": ("fact",),
    "word": ("saying",),
    "way": ("step",),
    "together": ("step", "bar", "step"),
    "depth": ("label", "label"),
    "drawn": ("mark",),
    "eye": ("name",),
    "lacking": (),
    "times": ("label", "label", "label"),
    "clash": (),
}


def read_line(line):
    """The first word of a line, and what the others stand for."""
    words = words_of(line)
    if words[0] not in KINDS_BEHIND:
        raise BadText(0, 0)
    parts, at = [], 1
    for kind in KINDS_BEHIND[words[0]]:
        found, at = _parts_at(words, at, kind)
        parts = parts + found
    end_at(words, at)
    return (words[0], *parts)


def first_word(line):
    """The first word of a line, without a look at the others."""
    return words_of(line)[0]


def _parts_at(words, at, kind):
    """What words from at on stand for, by its kind, as a list, and the index behind."""
    if kind == "bar":
        return [], behind_bar(words, at)
    if kind == "name":
        return [name_at(words, at, None)], at + 1
    if kind == "label":
        return [label_word(words, at, None)], at + 1
    if kind == "number":
        return [_number_at(words, at)], at + 1
    if kind == "numbers":
        many = max(len(words) - at, 1)
        return [_number_at(words, at + behind) for behind in range(many)], at + many
    found, behind = _text_at(words, at, kind)
    return [found], behind


def _text_at(words, at, kind):
    """The value whose text begins there, and the index behind it."""
    if kind == "picture":
        return picture_at(words, at)
    if kind == "fact":
        return fact_at(words, at, None)
    if kind == "light":
        return light_at(words, at, None)
    if kind == "saying":
        return saying_at(words, at, None)
    if kind == "step":
        return step_at(words, at, None)
    terms, behind = terms_at(words, at, None, 1)
    return Mark(terms), behind


def _number_at(words, at):
    """The integer from 0 on that stands there."""
    ratio = ratio_at(words, at)
    if not ratio.is_whole or ratio.sign < 0:
        raise BadText(0, at)
    return ratio.top
