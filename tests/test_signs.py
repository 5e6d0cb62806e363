import unittest

from leafhouse.signs import SIGNS, check_of, digits, number_of
from tests.helper import ALL_SIGNS, assert_refused, things_but

BEYOND = {1: 64, 2: 4096, 3: 262144}


class TestSigns(unittest.TestCase):
    def test_the_sixty_four_in_their_order(self):
        lower = "abcdefghijklmnopqrstuvwxyz"
        self.assertEqual(SIGNS, "0123456789" + lower + lower.upper() + "+-")
        self.assertEqual(len(SIGNS), 64)


class TestDigits(unittest.TestCase):
    def test_nought(self):
        self.assertEqual([digits(0, many) for many in (1, 2, 3)], ["0", "00", "000"])

    def test_the_greatest_number_that_so_many_write(self):
        self.assertEqual(
            [digits(63, 1), digits(4095, 2), digits(262143, 3)], ["-", "--", "---"]
        )

    def test_by_one_each_sign_stands_for_its_place(self):
        self.assertEqual([digits(number, 1) for number in range(64)], list(SIGNS))

    def test_numbers_between_the_highest_bits_first(self):
        told = {
            (10, 1): "a",
            (36, 1): "A",
            (62, 1): "+",
            (1, 2): "01",
            (63, 2): "0-",
            (64, 2): "10",
            (65, 2): "11",
            (200, 2): "38",
            (4032, 2): "-0",
            (4092, 2): "-Y",
            (1, 3): "001",
            (64, 3): "010",
            (4095, 3): "0--",
            (4096, 3): "100",
            (4096 * 10 + 64 * 36 + 62, 3): "aA+",
            (262080, 3): "--0",
        }
        for (number, many), text in told.items():
            with self.subTest(number=number, many=many):
                self.assertEqual(digits(number, many), text)

    def test_one_beyond_the_greatest(self):
        for many, number in BEYOND.items():
            for more in (number, number + 1, number * 64, 10**5000):
                with self.subTest(many=many, more=more.bit_length()):
                    assert_refused(self, "BadNumber", digits, more, many)

    def test_below_nought(self):
        for many in (1, 2, 3):
            for number in (-1, -2, -63, -64, -4096, -262144, -(10**5000)):
                with self.subTest(many=many, bits=number.bit_length()):
                    assert_refused(self, "BadNumber", digits, number, many)

    def test_another_many(self):
        for many in (-(10**5000), -2, -1, 0, 4, 5, 64, 10**5000):
            for number in (0, 1, 70):
                with self.subTest(bits=many.bit_length(), number=number):
                    assert_refused(self, "BadNumber", digits, number, many)

    def test_numbers_of_other_kinds(self):
        for at, thing in enumerate(things_but(int)):
            for many in (1, 2, 3, 0, 4):
                with self.subTest(at=at, kind=type(thing), many=many):
                    assert_refused(self, "BadNumber", digits, thing, many)

    def test_a_many_of_another_kind(self):
        for at, thing in enumerate(things_but(int)):
            for number in (0, 1, -1):
                with self.subTest(at=at, kind=type(thing), number=number):
                    assert_refused(self, "BadNumber", digits, number, thing)

    def test_both_of_other_kinds(self):
        for at, thing in enumerate(things_but(int)):
            with self.subTest(at=at, kind=type(thing)):
                assert_refused(self, "BadNumber", digits, thing, thing)

    def test_what_is_handed_in_stays_as_it_was(self):
        row, leads = [1, 2], {"a": [1]}
        assert_refused(self, "BadNumber", digits, row, leads)
        assert_refused(self, "BadText", number_of, row)
        assert_refused(self, "BadText", check_of, leads)
        self.assertEqual((row, leads), ([1, 2], {"a": [1]}))


class TestNumberOf(unittest.TestCase):
    def test_the_number_back_from_what_digits_told(self):
        for many, step in ((1, 1), (2, 1), (3, 61)):
            numbers = list(range(0, BEYOND[many], step)) + [BEYOND[many] - 1]
            self.assertEqual([number_of(digits(each, many)) for each in numbers], numbers)

    def test_numbers_told_by_hand(self):
        told = {"0": 0, "-": 63, "a": 10, "Z": 61, "10": 64, "01": 1, "--": 4095, "0a0": 640, "---": 262143}
        for text, number in told.items():
            with self.subTest(text):
                self.assertEqual(number_of(text), number)

    def test_no_sign_and_four_or_more(self):
        for text in ("", "0000", "1234", "00000", "0" * 200):
            with self.subTest(text):
                assert_refused(self, "BadText", number_of, text)

    def test_other_signs(self):
        others = [sign for sign in ALL_SIGNS if sign not in SIGNS] + ["\t", "\n", "\r"]
        self.assertEqual(len(others), 33)
        for sign in others:
            for text in (sign, "0" + sign, sign + "0", "0" + sign + "0", "00" + sign):
                with self.subTest(text):
                    assert_refused(self, "BadText", number_of, text)

    def test_things_of_other_kinds(self):
        for at, thing in enumerate(things_but(str)):
            with self.subTest(at=at, kind=type(thing)):
                assert_refused(self, "BadText", number_of, thing)


class TestCheckOf(unittest.TestCase):
    def test_sums_reckoned_by_hand(self):
        told = (
            ("", "00"),
            # 1, 95 (64 + 31), 17
            (" ", "01"),
            ("~", "1v"),
            ("0", "0h"),
            # 66 * 1 + 67 * 2 = 200, 67 * 1 + 66 * 2 = 199
            ("ab", "38"),
            ("ba", "37"),
            # 1 + 2 + .. + 88 + 89 = 4005, and 87 or 88 more at the first place: 4092 and 4093
            ("w" + " " * 88, "-Y"),
            ("x" + " " * 88, "00"),
            # 1 + 2 + .. + 90 = 4095
            (" " * 90, "02"),
            # 1 + 2 + .. + 200 = 20100 = 4 * 4093 + 3728, 3728 = 58 * 64 + 16
            (" " * 200, "Wg"),
            # 95 * 20100 = 1909500 = 466 * 4093 + 2162, 2162 = 33 * 64 + 50
            ("~" * 200, "xO"),
            # 1*1 + .. + 5*5 = 55 and 7*6 + 8*7 + .. + 95*94 = 285690: 69 * 4093 + 3328, 3328 = 52 * 64
            (ALL_SIGNS, "Q0"),
        )
        for text, check in told:
            with self.subTest(text):
                self.assertEqual(check_of(text), check)

    def test_the_number_of_each_sign(self):
        for sign in ALL_SIGNS:
            with self.subTest(sign):
                self.assertEqual(number_of(check_of(sign)), ord(sign) - 31)

    def test_each_place_counts_from_one(self):
        for place in range(1, 201):
            blanks = " " * (place - 1)
            more = number_of(check_of(blanks + "!")) - number_of(check_of(blanks + " "))
            with self.subTest(place):
                self.assertEqual(more % 4093, place)

    def test_two_signs_whatever_the_length(self):
        for long in range(0, 260, 7):
            text = (ALL_SIGNS * 3)[:long]
            with self.subTest(long):
                self.assertEqual(len(check_of(text)), 2)
                self.assertLess(number_of(check_of(text)), 4093)

    def test_another_check_where_one_sign_is_another_one(self):
        text = (ALL_SIGNS[::-1] * 3)[:200]
        check = check_of(text)
        for place in range(0, 200, 9):
            for sign in ALL_SIGNS:
                other = text[:place] + sign + text[place + 1 :]
                with self.subTest(place=place, sign=sign):
                    self.assertEqual(check_of(other) == check, other == text)

    def test_another_check_where_two_unlike_neighbours_are_exchanged(self):
        text = (ALL_SIGNS * 3)[:200]
        check = check_of(text)
        for place in range(199):
            other = text[:place] + text[place + 1] + text[place] + text[place + 2 :]
            with self.subTest(place):
                self.assertNotEqual(check_of(other), check)

    def test_tabs_and_line_ends(self):
        for sign in ("\t", "\n", "\r"):
            for text in (sign, "ab" + sign, sign + "ab", "a" + sign + "b", "a" * 199 + sign):
                with self.subTest(text):
                    assert_refused(self, "BadText", check_of, text)

    def test_things_of_other_kinds(self):
        for at, thing in enumerate(things_but(str)):
            with self.subTest(at=at, kind=type(thing)):
                assert_refused(self, "BadText", check_of, thing)


if __name__ == "__main__":
    unittest.main()
