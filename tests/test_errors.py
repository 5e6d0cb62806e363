import unittest

from leafhouse import errors
from tests.helper import NAMES


class TestErrors(unittest.TestCase):
    def test_table_error_stands_under_value_error(self):
        self.assertEqual(errors.TableError.__bases__, (ValueError,))

    def test_twelve_stand_straight_under_table_error(self):
        self.assertEqual(len(NAMES), 12)
        for name in NAMES:
            with self.subTest(name):
                self.assertEqual(getattr(errors, name).__bases__, (errors.TableError,))

    def test_none_stands_under_another_one(self):
        for name in NAMES:
            for other in NAMES:
                with self.subTest(name=name, other=other):
                    under = issubclass(getattr(errors, name), getattr(errors, other))
                    self.assertEqual(under, name == other)

    def test_there_are_no_other_refusals(self):
        found = [
            name
            for name, thing in vars(errors).items()
            if isinstance(thing, type) and issubclass(thing, errors.TableError)
        ]
        self.assertEqual(sorted(found), sorted(NAMES + ("TableError",)))

    def test_each_can_be_raised_and_taken_as_any_refusal(self):
        for name in NAMES:
            with self.subTest(name), self.assertRaises(errors.TableError) as taken:
                raise getattr(errors, name)()
            self.assertEqual(type(taken.exception).__name__, name)

    def test_bad_page_has_the_number_of_the_page(self):
        for number in (0, 1, 4095):
            with self.subTest(number):
                self.assertEqual(errors.BadPage(number).number, number)
                self.assertEqual(errors.BadPage(number, "words").number, number)

    def test_bad_page_without_a_number_has_none(self):
        self.assertIsNone(errors.BadPage().number)
        self.assertIsNone(errors.BadPage(None, "words").number)

    def test_no_key_has_the_key(self):
        for key in ("a", "twelve signs"):
            with self.subTest(key):
                self.assertEqual(errors.NoKey(key).key, key)
                self.assertEqual(errors.NoKey(key, "words").key, key)

    def test_fields_are_each_objects_own(self):
        first, second = errors.BadPage(1), errors.BadPage(2)
        self.assertEqual((first.number, second.number), (1, 2))
        first, second = errors.NoKey("a"), errors.NoKey("b")
        self.assertEqual((first.key, second.key), ("a", "b"))

    def test_words_are_told(self):
        for error in (errors.BadPage(1, "why"), errors.NoKey("a", "why"), errors.BadNumber("why")):
            with self.subTest(type(error).__name__):
                self.assertEqual(str(error), "why")


if __name__ == "__main__":
    unittest.main()
