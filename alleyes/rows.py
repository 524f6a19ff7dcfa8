"""Rows: sums of ratios times labels."""

from alleyes.checks import is_label, is_list
from alleyes.errors import BadNumber, BadRow, NoLabel
from alleyes.ratios import Ratio, added, check_ratio
from alleyes.terms import are_terms, joined_terms, kept_terms, label_at, nonzero_at, scaled_terms, terms_text
from alleyes.texts import end_at, words_of


class Row:
    """A ratio for each of its labels, none of them 0."""

    def __init__(self, terms):
        if not are_terms(terms):
            raise BadRow("terms")
        self.terms = kept_terms(terms)
        self.labels = tuple([label for label, _ in self.terms])

    @property
    def is_nothing(self):
        """Whether it has no labels."""
        return len(self.terms) == 0

    def ratio_of(self, label):
        """The ratio of a label, 0 for one that the row lacks."""
        if not is_label(label):
            raise NoLabel(label)
        return dict(self.terms).get(label, Ratio(0))

    def at(self, values):
        """What the row is at these values of its labels."""
        if not are_terms(values) or not all([label in values for label in self.labels]):
            raise BadNumber("values")
        return value_at(self, values)

    def __add__(self, other):
        check_row(other, "other")
        return Row(joined_terms(self.terms, other.terms, 1))

    def __sub__(self, other):
        check_row(other, "other")
        return Row(joined_terms(self.terms, other.terms, -1))

    def __neg__(self):
        return Row(scaled_terms(self.terms, -1))

    def __mul__(self, other):
        check_ratio(other, "ratio")
        return Row(scaled_terms(self.terms, other))

    def __eq__(self, other):
        return isinstance(other, Row) and self.terms == other.terms

    def __str__(self):
        if self.is_nothing:
            return "0"
        return str(terms_text(self.terms))

    @staticmethod
    def read(text):
        """The row with this text."""
        words = words_of(text)
        if words[0] == "0":
            end_at(words, 1)
            return Row({})
        terms = {}
        before = ""
        for at in range(0, len(words), 2):
            before = label_at(words, at, before)
            terms[before] = nonzero_at(words, at + 1)
        return Row(terms)


def value_at(row, values):
    """What a row is at a dict of ratios by labels; one that it lacks has 0."""
    return added([ratio * values.get(label, 0) for label, ratio in row.terms])


def pairs_at(row, spots):
    """The row as pairs of the positions of its labels, and ratios."""
    return [(spots[label], ratio) for label, ratio in row.terms]


def are_rows(value):
    """Whether any value is a list or tuple of Rows, perhaps none."""
    return is_list(value) and all([isinstance(row, Row) for row in value])


def check_row(value, part):
    """BadRow with the name of an argument that is no row."""
    if not isinstance(value, Row):
        raise BadRow(part)


def check_rows(value, part):
    """BadRow with the name of an argument that is no list or tuple of rows."""
    if not are_rows(value):
        raise BadRow(part)


def check_labels_known(rows, labels):
    """NoLabel for the first label, row by row, in each ascending, that is none of the labels."""
    known = {label: True for label in labels}
    for row in rows:
        for label in row.labels:
            if label not in known:
                raise NoLabel(label)
