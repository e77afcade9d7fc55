import unittest

from pairedtongues import errors

NAMES = [
    "BadBook", "BadText", "BadSide", "BadRows", "BadNumber", "BadName", "BadForm", "BadWord", "BadReading", "BadPaper",
    "BadCount", "BadLinks", "NoPair", "BadPlace", "BadOrder", "BadWorld", "BadTerm", "BadKind", "BadNumbers",
    "BadExamples", "BadRule", "Needed", "NothingToUndo", "Full", "BadCommand", "TooMany",
]


class Classes(unittest.TestCase):
    def test_all_of_them_exist(self):
        found = [name for name, thing in vars(errors).items() if isinstance(thing, type)]
        self.assertEqual(sorted(found), sorted(NAMES + ["TongueError"]))

    def test_tongue_error_stands_under_value_error(self):
        self.assertEqual(errors.TongueError.__bases__, (ValueError,))

    def test_each_stands_directly_under_tongue_error(self):
        for name in NAMES:
            with self.subTest(name):
                self.assertEqual(getattr(errors, name).__bases__, (errors.TongueError,))

    def test_none_is_caught_as_another(self):
        for name in NAMES:
            for other in NAMES:
                if name != other:
                    self.assertFalse(issubclass(getattr(errors, name), getattr(errors, other)), (name, other))

    def test_those_without_fields_are_made_with_one_text(self):
        for name in ["TongueError"] + [name for name in NAMES if name != "BadRows"]:
            with self.subTest(name):
                made = getattr(errors, name)("a text")
                self.assertIn("a text", str(made))
                with self.assertRaises(errors.TongueError):
                    raise made


class Fields(unittest.TestCase):
    def test_bad_rows_by_position(self):
        made = errors.BadRows(3, 4)
        self.assertEqual((made.row, made.word), (3, 4))

    def test_bad_rows_by_name(self):
        made = errors.BadRows(word=4, row=3)
        self.assertEqual((made.row, made.word), (3, 4))

    def test_bad_rows_needs_both(self):
        for arguments in ((), (1,), (1, 2, 3)):
            with self.assertRaises(TypeError):
                errors.BadRows(*arguments)


if __name__ == "__main__":
    unittest.main()
