"""The refusals' classes, how they stand, and their fields ([2] and the interface)."""

import unittest

from pivotfold import errors

WITH_WORDS = ("BadColumns", "BadOrder", "BadWay", "NoNumber", "NoPart", "NoHead", "NoRow")
WITH_FIELD = (("NoColumn", "name", "town"), ("Double", "rows", (1, 4)), ("BadRow", "row", 3))


class ErrorsTest(unittest.TestCase):
    def test_fold_error_stands_under_value_error(self):
        self.assertEqual(errors.FoldError.__bases__, (ValueError,))

    def test_each_class_stands_straight_under_fold_error(self):
        for name in WITH_WORDS + tuple(name for name, _, _ in WITH_FIELD):
            with self.subTest(name=name):
                self.assertEqual(getattr(errors, name).__bases__, (errors.FoldError,))

    def test_classes_made_with_words(self):
        for name in WITH_WORDS:
            with self.subTest(name=name):
                made = getattr(errors, name)("some words")
                self.assertIsInstance(made, ValueError)
                self.assertIn("some words", str(made))

    def test_classes_with_a_field_have_it_when_made(self):
        for name, field, value in WITH_FIELD:
            with self.subTest(name=name):
                self.assertEqual(getattr(getattr(errors, name)(value), field), value)

    def test_each_object_has_its_own_field(self):
        one = errors.NoColumn("a")
        other = errors.NoColumn("b")
        self.assertEqual((one.name, other.name), ("a", "b"))

    def test_no_class_catches_another_ones_refusal(self):
        names = WITH_WORDS + tuple(name for name, _, _ in WITH_FIELD)
        for name in names:
            for other in names:
                if name != other:
                    with self.subTest(name=name, other=other):
                        self.assertFalse(issubclass(getattr(errors, name), getattr(errors, other)))


if __name__ == "__main__":
    unittest.main()
