"""Desks: pictures and facts, told line by line."""

from alleyes.checks import is_name
from alleyes.desk_asks import answer_of
from alleyes.desk_deeds import book_kept, changed
from alleyes.errors import BadLine, EyesError, Nothing
from alleyes.reader import ASKS, first_word


class Desk:
    """Keeps pictures and facts, and the deed lines that are done and not taken back."""

    def __init__(self):
        self.pictures = ()
        self.facts = ()
        self.book = None
        self.texts = ()
        self.story = ()
        # Pairs of pictures and facts: what was kept ahead of each line of the story.
        self.earlier = ()
        # What can be done again, the next one last: triples of a line and of what was kept behind it.
        self.later = ()

    def told(self, *lines):
        """The answers to some lines, all of which are done, or none."""
        draft = self.twin()
        answers = _all_told(draft, lines)
        _take_over(self, draft)
        return answers

    def __call__(self, line):
        if first_word(line) in ASKS:
            return answer_of(self.pictures, self.facts, line)
        pictures, facts, answer = changed(self.pictures, self.facts, line)
        _go_on(self, line, pictures, facts)
        self.later = ()
        return answer

    def tried(self, *lines):
        """The answers to some lines, which leave the desk as it is."""
        return _all_told(self.twin(), lines)

    def undo(self):
        """Takes back the last line of the story."""
        if len(self.story) == 0:
            raise Nothing()
        line = self.story[-1]
        pictures, facts = self.earlier[-1]
        self.later = (*self.later, (line, self.pictures, self.facts))
        self.story = self.story[:-1]
        self.earlier = self.earlier[:-1]
        _keep(self, pictures, facts)
        return line

    def redo(self):
        """Does again the line that was taken back last."""
        if len(self.later) == 0:
            raise Nothing()
        line, pictures, facts = self.later[-1]
        self.later = self.later[:-1]
        _go_on(self, line, pictures, facts)
        return line

    def twin(self):
        """A desk that is as this one."""
        other = Desk()
        _take_over(other, self)
        return other

    def __len__(self):
        return len(self.facts)

    def __iter__(self):
        return iter(self.texts)

    def __contains__(self, value):
        return is_name(value) and value in [picture.name for picture in self.pictures]

    def __eq__(self, other):
        return isinstance(other, Desk) and self.pictures == other.pictures and self.facts == other.facts


def _all_told(desk, lines):
    """The answers of a desk to some lines, told in turn; BadLine for the first that is refused."""
    answers = []
    for at, line in enumerate(lines):
        try:
            answers.append(desk(line))
        except EyesError as why:
            raise BadLine(at, why)
    return tuple(answers)


def _go_on(desk, line, pictures, facts):
    """Puts a line into the story, and keeps what is behind it."""
    desk.earlier = (*desk.earlier, (desk.pictures, desk.facts))
    desk.story = (*desk.story, line)
    _keep(desk, pictures, facts)


def _keep(desk, pictures, facts):
    """Keeps just these pictures and facts."""
    desk.pictures = pictures
    desk.facts = facts
    desk.book = book_kept(pictures, facts)
    desk.texts = tuple([str(fact) for fact in facts])


def _take_over(desk, source):
    """Makes a desk as another one is."""
    _keep(desk, source.pictures, source.facts)
    desk.story = source.story
    desk.earlier = source.earlier
    desk.later = source.later
