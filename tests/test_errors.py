"""The errors: their classes, bases and fields."""

import unittest

from alleyes import errors
from tests.support import Odd

WITH_PART = ("BadRatio BadRow BadPicture BadStep BadMark BadScene BadCone BadEye BadEyeRow BadFlat BadFact BadBook "
             "BadStanding BadSaying BadSolid BadView BadLight BadNumber BadPaper BadDesk NotPlain Unsettled").split()
OTHERS = {"Missing": ["name"], "NoLabel": ["name"], "NoPicture": ["name"], "NoName": ["name"], "NoFact": ["number"],
          "Twice": ["name"], "SamePlace": ["one", "other"], "TwoPictures": ["one", "other"],
          "NotJoined": ["one", "other"], "Behind": ["name"], "Impossible": ["word"], "Nothing": [],
          "TooMany": ["what", "most"], "BadText": ["line", "word"], "BadLine": ["line", "error"]}
BELOW_MISSING = ("NoLabel", "NoPicture", "NoName")


def fields_by_class():
    return {**{name: ["part"] for name in WITH_PART}, **OTHERS}


class ErrorsTest(unittest.TestCase):
    def test_all_classes_are_there(self):
        found = [name for name, value in vars(errors).items()
                 if isinstance(value, type) and value is not errors.EyesError]
        self.assertEqual(sorted(found), sorted(fields_by_class()))

    def test_bases(self):
        self.assertEqual(errors.EyesError.__bases__, (ValueError,))
        for name in fields_by_class():
            base = errors.Missing if name in BELOW_MISSING else errors.EyesError
            self.assertEqual(getattr(errors, name).__bases__, (base,), name)

    def test_fields_by_place_and_by_name(self):
        for name, fields in fields_by_class().items():
            kind = getattr(errors, name)
            values = [Odd() for _ in fields]
            for made in (kind(*values), kind(**dict(zip(fields, values)))):
                self.assertEqual(vars(made), dict(zip(fields, values)))
                for field, value in zip(fields, values):
                    self.assertIs(getattr(made, field), value)
                self.assertIsInstance(str(made), str)

    def test_fields_are_kept_as_they_are(self):
        names = ["a", {"b": True}]
        made = errors.Twice(names)
        self.assertIs(made.name, names)
        self.assertEqual(errors.BadText(0, 3).word, 3)
        self.assertIs(errors.BadNumber(True).part, True)
        self.assertEqual(errors.BadLine(2, errors.NoFact(0)).error.number, 0)

    def test_huge_and_odd_fields_can_be_told(self):
        for value in (10 ** 5000, "x" * 100000, None, [], 1.5):
            self.assertIsInstance(str(errors.NoLabel(value)), str)

    def test_too_few_fields(self):
        for name, fields in fields_by_class().items():
            if fields:
                with self.assertRaises(TypeError):
                    getattr(errors, name)()
        self.assertIsInstance(errors.Nothing(), errors.EyesError)
        self.assertIsInstance(errors.EyesError(), ValueError)


if __name__ == "__main__":
    unittest.main()
