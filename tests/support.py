"""What several tests use: values of wrong kinds, and a check of errors with their fields."""

from fractions import Fraction

from alleyes.ratios import Ratio


class Odd:
    """A value of a class that the package does not know."""


NO_INTEGERS = (True, False, None, 1.0, "1", [], (1,), {}, Odd(), Fraction(1), Ratio(1), b"1")
NO_RATIOS = (True, False, None, 1.0, "1", [], (1,), {}, Odd(), Fraction(1, 2), b"1")
NO_TEXTS = (None, True, 3, 1.5, b"0", ["0"], ("0",), {}, Odd(), Ratio(1))
NO_LABELS = (None, True, 3, [], {}, Odd(), "", "one", "one.", ".a", "one.a.b", "One.a", "one.A", "1ne.a", "one.2",
             "one a", "one.a ", "abcdefghijklm.a", "one.abcdefghijklm", b"one.a", "on\u00e9.a", ("one.a",))
NO_NAMES = (None, True, 3, [], {}, Odd(), "", "One", "1a", "a b", "a.b", "a_b", "abcdefghijklm", "\u00e9", b"one")
NO_LISTS = (None, True, 3, "one.a", {}, Odd(), Ratio(1), b"ab")


class Checks:
    """Beside unittest.TestCase: errors of just one class, with just these fields."""

    def raised(self, error, fields, call, *args, **named):
        try:
            call(*args, **named)
        except ValueError as found:
            self.assertIs(type(found), error, (call, args, named))
            self.assertEqual(vars(found), fields, (call, args, named))
            return
        self.fail(f"{error.__name__} was not raised: {call} {args!r} {named!r}")

    def bad(self, error, part, call, *args, **named):
        self.raised(error, {"part": part}, call, *args, **named)

    def bad_text(self, word, call, text):
        from alleyes.errors import BadText
        self.raised(BadText, {"line": 0, "word": word}, call, text)

    def bad_words(self, call, text, junk="?"):
        """Each word of a right text made junk, the text with a word more, and its beginnings, are told at the word.

        A beginning that ends behind a ratio of terms which do not add up yet is told at its last word.
        """
        words = text.split(" ")
        self.assertEqual(str(call(text)), text)
        for at in range(len(words)):
            self.bad_text(at, call, " ".join([*words[:at], junk, *words[at + 1:]]))
            self.bad_text(at, call, " ".join([*words[:at], "", *words[at + 1:]]))
        self.bad_text(len(words), call, text + " " + junk)
        self.bad_text(len(words), call, text + " ")
        for value in NO_TEXTS:
            self.bad_text(0, call, value)

    def bad_beginnings(self, call, text, at_last=(), right=()):
        """The beginnings of a text lack a word; some, by their number of words, are told at their last one."""
        words = text.split(" ")
        for many in range(1, len(words)):
            if many not in right:
                self.bad_text(many - 1 if many in at_last else many, call, " ".join(words[:many]))

    def all_ratios(self, values):
        for value in values:
            self.assertIs(type(value), Ratio)


def value_of(number):
    """The Fraction of a ratio, reckoned without the package's signs."""
    if isinstance(number, Ratio):
        return Fraction(number.top, number.bottom)
    return Fraction(number)


def total_of(row, depths):
    """What a row is at a dict, in Fractions; labels that it lacks have 0."""
    return sum((value_of(ratio) * value_of(depths.get(label, 0)) for label, ratio in row.terms), Fraction(0))
