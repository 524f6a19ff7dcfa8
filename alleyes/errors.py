"""The errors of the package: each keeps its fields in attributes of their names."""


def _shown(value):
    """Value as a word of a message; any value may be a field, and not each one can be shown."""
    if isinstance(value, str):
        return value
    if isinstance(value, int) and abs(value) < 10 ** 9:
        return str(value)
    return "?"


class EyesError(ValueError):
    """The base of all errors of the package."""


class BadRatio(EyesError):
    """No ratio, or one that does not fit."""

    def __init__(self, part):
        super().__init__(f"BadRatio: {_shown(part)}")
        self.part = part


class BadRow(EyesError):
    """No row, or no rows, as wanted."""

    def __init__(self, part):
        super().__init__(f"BadRow: {_shown(part)}")
        self.part = part


class BadPicture(EyesError):
    """No picture, or no part of one, as wanted."""

    def __init__(self, part):
        super().__init__(f"BadPicture: {_shown(part)}")
        self.part = part


class BadStep(EyesError):
    """No step, or no part of one, as wanted."""

    def __init__(self, part):
        super().__init__(f"BadStep: {_shown(part)}")
        self.part = part


class BadMark(EyesError):
    """No mark, or no part of one, as wanted."""

    def __init__(self, part):
        super().__init__(f"BadMark: {_shown(part)}")
        self.part = part


class BadScene(EyesError):
    """No scene, or no depths of one."""

    def __init__(self, part):
        super().__init__(f"BadScene: {_shown(part)}")
        self.part = part


class BadCone(EyesError):
    """No cone, or no labels of one."""

    def __init__(self, part):
        super().__init__(f"BadCone: {_shown(part)}")
        self.part = part


class BadEye(EyesError):
    """No eye, or no number of one."""

    def __init__(self, part):
        super().__init__(f"BadEye: {_shown(part)}")
        self.part = part


class BadEyeRow(EyesError):
    """No eye row, or no number of one."""

    def __init__(self, part):
        super().__init__(f"BadEyeRow: {_shown(part)}")
        self.part = part


class BadFlat(EyesError):
    """No flat, or no lines of one."""

    def __init__(self, part):
        super().__init__(f"BadFlat: {_shown(part)}")
        self.part = part


class BadFact(EyesError):
    """No fact, or no part of one, as wanted."""

    def __init__(self, part):
        super().__init__(f"BadFact: {_shown(part)}")
        self.part = part


class BadBook(EyesError):
    """No book, or no part of one, as wanted."""

    def __init__(self, part):
        super().__init__(f"BadBook: {_shown(part)}")
        self.part = part


class BadStanding(EyesError):
    """No standing."""

    def __init__(self, part):
        super().__init__(f"BadStanding: {_shown(part)}")
        self.part = part


class BadSaying(EyesError):
    """No saying, or no sayings, as wanted."""

    def __init__(self, part):
        super().__init__(f"BadSaying: {_shown(part)}")
        self.part = part


class BadSolid(EyesError):
    """No solid, or no part of one, as wanted."""

    def __init__(self, part):
        super().__init__(f"BadSolid: {_shown(part)}")
        self.part = part


class BadView(EyesError):
    """No view, or no part of one, as wanted."""

    def __init__(self, part):
        super().__init__(f"BadView: {_shown(part)}")
        self.part = part


class BadLight(EyesError):
    """No light, or no part of one, as wanted."""

    def __init__(self, part):
        super().__init__(f"BadLight: {_shown(part)}")
        self.part = part


class BadNumber(EyesError):
    """No number, or no numbers, as wanted."""

    def __init__(self, part):
        super().__init__(f"BadNumber: {_shown(part)}")
        self.part = part


class BadPaper(EyesError):
    """No paper as wanted."""

    def __init__(self, part):
        super().__init__(f"BadPaper: {_shown(part)}")
        self.part = part


class BadDesk(EyesError):
    """No desk, or no lines of one."""

    def __init__(self, part):
        super().__init__(f"BadDesk: {_shown(part)}")
        self.part = part


class NotPlain(EyesError):
    """A step that is not plain."""

    def __init__(self, part):
        super().__init__(f"NotPlain: {_shown(part)}")
        self.part = part


class Unsettled(EyesError):
    """A step, or a row, that is not settled."""

    def __init__(self, part):
        super().__init__(f"Unsettled: {_shown(part)}")
        self.part = part


class Missing(EyesError):
    """Any value that is none here; what is raised is one of the three below."""

    def __init__(self, name):
        super().__init__(f"none here: {_shown(name)}")
        self.name = name


class NoLabel(Missing):
    """No label here."""

    def __init__(self, name):
        super().__init__(name)
        self.name = name


class NoPicture(Missing):
    """No name of a picture here."""

    def __init__(self, name):
        super().__init__(name)
        self.name = name


class NoName(Missing):
    """No name here."""

    def __init__(self, name):
        super().__init__(name)
        self.name = name


class NoFact(EyesError):
    """No number of a fact here."""

    def __init__(self, number):
        super().__init__(f"NoFact: {_shown(number)}")
        self.number = number


class Twice(EyesError):
    """What stood ahead already."""

    def __init__(self, name):
        super().__init__(f"Twice: {_shown(name)}")
        self.name = name


class SamePlace(EyesError):
    """Two points at one place."""

    def __init__(self, one, other):
        super().__init__(f"SamePlace: {_shown(one)}, {_shown(other)}")
        self.one = one
        self.other = other


class TwoPictures(EyesError):
    """Names of pictures where one is wanted."""

    def __init__(self, one, other):
        super().__init__(f"TwoPictures: {_shown(one)}, {_shown(other)}")
        self.one = one
        self.other = other


class NotJoined(EyesError):
    """Two pictures that are not of one heap."""

    def __init__(self, one, other):
        super().__init__(f"NotJoined: {_shown(one)}, {_shown(other)}")
        self.one = one
        self.other = other


class Behind(EyesError):
    """A point behind the eye."""

    def __init__(self, name):
        super().__init__(f"Behind: {_shown(name)}")
        self.name = name


class Impossible(EyesError):
    """What nothing can be told of, as there is nothing such."""

    def __init__(self, word):
        super().__init__(f"Impossible: {_shown(word)}")
        self.word = word


class Nothing(EyesError):
    """Nothing that could be told, or taken back."""

    def __init__(self):
        super().__init__("Nothing")


class TooMany(EyesError):
    """More than the most."""

    def __init__(self, what, most):
        super().__init__(f"TooMany: {_shown(what)}, {_shown(most)}")
        self.what = what
        self.most = most


class BadText(EyesError):
    """A text, whose word of this index cannot stand; line is 0 where there is one alone."""

    def __init__(self, line, word):
        super().__init__(f"BadText: {_shown(line)}, {_shown(word)}")
        self.line = line
        self.word = word


class BadLine(EyesError):
    """A line of a desk, and the error raised there."""

    def __init__(self, line, error):
        super().__init__(f"BadLine: {_shown(line)}")
        self.line = line
        self.error = error
