"""Points 2 and 3: the refusals."""

import unittest

from tablefind import errors
from tests.samples import NAMES

TEXTS = ["", "a", "no table", "two words", "a/b ?", "{} {0}", "one\ntwo\tthree", " ", "'quoted'", "x" * 3300]


class Refusals(unittest.TestCase):

    def test_each_is_a_class_of_the_module(self):
        for name in NAMES + ("TableError",):
            self.assertIs(type(getattr(errors, name)), type, name)
            self.assertEqual(getattr(errors, name).__module__, "tablefind.errors")
            self.assertEqual(getattr(errors, name).__name__, name)

    def test_each_stands_under_table_error_and_value_error(self):
        self.assertTrue(issubclass(errors.TableError, ValueError))
        for name in NAMES:
            self.assertTrue(issubclass(getattr(errors, name), errors.TableError), name)
            self.assertTrue(issubclass(getattr(errors, name), ValueError), name)

    def test_none_stands_under_another_one(self):
        for name in NAMES:
            for other in NAMES:
                one_under_other = issubclass(getattr(errors, name), getattr(errors, other))
                self.assertEqual(one_under_other, name == other, (name, other))

    def test_table_error_stands_under_none_of_them(self):
        for name in NAMES:
            self.assertFalse(issubclass(errors.TableError, getattr(errors, name)), name)

    def test_str_tells_the_text(self):
        for name in NAMES + ("TableError",):
            for text in TEXTS:
                self.assertEqual(str(getattr(errors, name)(text)), text)

    def test_each_is_caught_by_its_name_and_those_above(self):
        for name in NAMES:
            for above in (getattr(errors, name), errors.TableError, ValueError):
                with self.assertRaises(above) as caught:
                    raise getattr(errors, name)("why")
                self.assertEqual(str(caught.exception), "why")

    def test_none_is_caught_by_another_name(self):
        for name in NAMES:
            others = tuple([getattr(errors, other) for other in NAMES if other != name])
            try:
                raise getattr(errors, name)("why")
            except others:
                self.fail(f"{name} was caught by another name")
            except errors.TableError as refusal:
                self.assertIs(type(refusal), getattr(errors, name))


if __name__ == "__main__":
    unittest.main()
