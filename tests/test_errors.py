"""The interface under wordworth/errors.py, and the errors of point 0.5."""

import unittest

from wordworth import errors
from wordworth.errors import WordError

KINDS = [
    "BadNumber", "BadMachine", "BadWord", "BadStar", "BadText",
    "BadPaper", "BadDeed", "TooMany", "Unknown", "Taken",
]


class ErrorsTest(unittest.TestCase):
    def test_base_class_is_a_value_error(self):
        self.assertEqual(WordError.__bases__, (ValueError,))

    def test_ten_direct_subclasses_and_no_more(self):
        for name in KINDS:
            with self.subTest(name):
                self.assertEqual(getattr(errors, name).__bases__, (WordError,))
        self.assertEqual(sorted(kind.__name__ for kind in WordError.__subclasses__()), sorted(KINDS))

    def test_what_by_place_by_name_or_not_at_all(self):
        for name in ["WordError"] + KINDS:
            kind = getattr(errors, name)
            with self.subTest(name):
                self.assertEqual(kind("abc").what, "abc")
                self.assertEqual(kind(what="abc").what, "abc")
                self.assertIsNone(kind().what)
                self.assertIsNone(kind(None).what)

    def test_what_is_kept_as_it_is(self):
        for name in ["WordError"] + KINDS:
            kind = getattr(errors, name)
            for what in ("", "a b", 0, -7, ("a", 3)):
                with self.subTest(name, what=what):
                    self.assertIs(kind(what).what, what)

    def test_two_errors_have_no_effect_on_each_other(self):
        one, other = errors.BadWord("a"), errors.BadWord("b")
        self.assertEqual((one.what, other.what), ("a", "b"))

    def test_each_is_caught_by_its_name_and_as_base(self):
        for name in KINDS:
            kind = getattr(errors, name)
            for caught in (kind, WordError, ValueError):
                with self.subTest(name, caught=caught):
                    with self.assertRaises(caught) as context:
                        raise kind("x")
                    self.assertEqual(context.exception.what, "x")

    def test_none_is_caught_by_the_name_of_another(self):
        for name in KINDS:
            for other in KINDS:
                if name != other:
                    self.assertFalse(issubclass(getattr(errors, name), getattr(errors, other)))

    def test_more_than_one_argument_is_refused(self):
        with self.assertRaises(TypeError):
            WordError("a", "b")


if __name__ == "__main__":
    unittest.main()
