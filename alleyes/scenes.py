"""Scenes: depths of labels."""

from alleyes.checks import is_label
from alleyes.errors import BadNumber, BadScene, BadText, NoLabel
from alleyes.ratios import is_positive, ratio_at
from alleyes.terms import are_terms, kept_terms, label_at, scaled_terms, terms_text
from alleyes.texts import words_of


class Scene:
    """A depth above 0 for each of its labels."""

    def __init__(self, depths):
        if not are_terms(depths) or len(depths) == 0:
            raise BadScene("depths")
        if not all([is_positive(depths[label]) for label in depths]):
            raise BadScene("depths")
        self.depths = kept_terms(depths)

    def depth_of(self, label):
        """The depth of a label."""
        if label not in self:
            raise NoLabel(label)
        return dict(self.depths)[label]

    def __len__(self):
        return len(self.depths)

    def __contains__(self, value):
        return is_label(value) and value in dict(self.depths)

    def __mul__(self, other):
        if not is_positive(other):
            raise BadNumber("ratio")
        return Scene(scaled_terms(self.depths, other))

    def __eq__(self, other):
        return isinstance(other, Scene) and self.depths == other.depths

    def __str__(self):
        return str(terms_text(self.depths))

    @staticmethod
    def read(text):
        """The scene with this text."""
        words = words_of(text)
        depths = {}
        before = ""
        for at in range(0, len(words), 2):
            before = label_at(words, at, before)
            depth = ratio_at(words, at + 1)
            if not is_positive(depth):
                raise BadText(0, at + 1)
            depths[before] = depth
        return Scene(depths)
