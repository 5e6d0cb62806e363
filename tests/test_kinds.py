import unittest

from leafhouse.kinds import is_key, is_value
from tests.helper import ALL_SIGNS, things_but


class TestKinds(unittest.TestCase):
    def test_how_long_a_key_is(self):
        for long, told in ((0, False), (1, True), (2, True), (11, True), (12, True), (13, False), (400, False)):
            for sign in ("a", " ", "~"):
                with self.subTest(long=long, sign=sign):
                    self.assertIs(is_key(sign * long), told)

    def test_how_long_a_value_is(self):
        for long, told in ((0, True), (1, True), (13, True), (399, True), (400, True), (401, False), (900, False)):
            for sign in ("a", " ", "~"):
                with self.subTest(long=long, sign=sign):
                    self.assertIs(is_value(sign * long), told)

    def test_each_sign_may_stand(self):
        for sign in ALL_SIGNS:
            with self.subTest(sign):
                self.assertIs(is_key(sign), True)
                self.assertIs(is_value(sign), True)
        self.assertIs(is_value(ALL_SIGNS), True)

    def test_tabs_and_line_ends(self):
        for sign in ("\t", "\n", "\r"):
            for text in (sign, "a" + sign, sign + "a", "a" + sign + "b", "a" * 11 + sign):
                with self.subTest(text):
                    self.assertIs(is_key(text), False)
                    self.assertIs(is_value(text), False)
            self.assertIs(is_value("a" * 399 + sign), False)

    def test_things_of_other_kinds(self):
        for at, thing in enumerate(things_but(str)):
            with self.subTest(at=at, kind=type(thing)):
                self.assertIs(is_key(thing), False)
                self.assertIs(is_value(thing), False)

    def test_what_is_handed_in_stays_as_it_was(self):
        row, leads = ["a"], {"a": "b"}
        for ask in (is_key, is_value):
            ask(row)
            ask(leads)
        self.assertEqual((row, leads), (["a"], {"a": "b"}))


if __name__ == "__main__":
    unittest.main()
