import unittest

from leafhouse.journal import bundle_rows, kept_bundles
from tests.helper import last_row_by_hand, row_by_hand, text_by_hand, with_check

LEAF = ("leaf", ())
FREE = ("free", 9)
HEAD = ("head", 1, 1, 0, 0)
LEAF_TEXT = text_by_hand("l", "0")
FREE_TEXT = text_by_hand("e", "09")
HEAD_TEXT = text_by_hand("h", "01010000")
# Three bundles, the second with a page whose number begins with the sign k.
ROWS = [
    row_by_hand(0, HEAD_TEXT),
    row_by_hand(1, LEAF_TEXT),
    last_row_by_hand(2),
    row_by_hand(1280, FREE_TEXT),
    last_row_by_hand(1),
    row_by_hand(1, FREE_TEXT),
    row_by_hand(2, LEAF_TEXT),
    row_by_hand(4095, FREE_TEXT),
    last_row_by_hand(3),
]
BUNDLES = [[(0, HEAD), (1, LEAF)], [(1280, FREE)], [(1, FREE), (2, LEAF), (4095, FREE)]]
# How many bundles stand where so many of the first rows do.
STAND = [0, 0, 0, 1, 1, 2, 2, 2, 2, 3]


class TestRowsOfABundle(unittest.TestCase):
    def test_rows_made_by_hand(self):
        self.assertEqual(bundle_rows({0: HEAD_TEXT, 1: LEAF_TEXT}), ROWS[:3])
        self.assertEqual(bundle_rows({1280: FREE_TEXT}), ROWS[3:5])

    def test_a_last_row_reckoned_by_hand(self):
        # k 76 * 1, 0 17 * 2, 1 18 * 3: 164 = 2 * 64 + 36
        self.assertEqual(bundle_rows({7: LEAF_TEXT})[-1], "k01" + "2A")

    def test_a_row_reckoned_by_hand(self):
        # The leaf's text of size 64 is l01, noughts up to 62 signs, and the check 88. Two signs ahead of it:
        # 17 * (1 + .. + 66) for noughts alone, less those of the two last places, which the check has:
        # 17 * 2080 = 35360 up to 64, then 25 * 65 + 25 * 66 = 3275; 7 of the number 7 * 2, l 60 * 3, 1 of
        # length 1 * 5: 38834 = 9 * 4093 + 1997, 1997 = 31 * 64 + 13
        self.assertEqual(bundle_rows({7: LEAF_TEXT})[0], "07" + "l01" + "0" * 59 + "88" + "vd")

    def test_rows_rise_whatever_the_order_of_the_pages(self):
        self.assertEqual(bundle_rows({4095: FREE_TEXT, 1: FREE_TEXT, 2: LEAF_TEXT}), ROWS[5:])

    def test_no_page_no_row(self):
        self.assertEqual(bundle_rows({}), [])

    def test_many_pages(self):
        rows = bundle_rows({number: LEAF_TEXT for number in range(200)})
        self.assertEqual(rows, [row_by_hand(number, LEAF_TEXT) for number in range(200)] + [with_check("k38")])

    def test_what_is_handed_in_stays(self):
        texts = {2: LEAF_TEXT, 1: FREE_TEXT}
        bundle_rows(texts)
        self.assertEqual(list(texts.items()), [(2, LEAF_TEXT), (1, FREE_TEXT)])


class TestReading(unittest.TestCase):
    def test_whole_rows(self):
        for many in range(len(ROWS) + 1):
            with self.subTest(many):
                self.assertEqual(kept_bundles(ROWS[:many], 64), BUNDLES[: STAND[many]])

    def test_other_sizes(self):
        for size in (64, 65, 200):
            rows = [row_by_hand(3, text_by_hand("e", "09", size)), last_row_by_hand(1)]
            for other in (64, 65, 200):
                with self.subTest(size=size, other=other):
                    self.assertEqual(kept_bundles(rows, other), [[(3, FREE)]] if other == size else [])

    def test_cut_off_at_any_sign(self):
        for at, row in enumerate(ROWS):
            for cut in range(len(row)):
                with self.subTest(at=at, cut=cut):
                    rows = ROWS[:at] + [row[:cut]]
                    self.assertEqual(kept_bundles(rows, 64), BUNDLES[: STAND[at]])
                    # What stands behind it isn't read.
                    self.assertEqual(kept_bundles(rows + ROWS[at:], 64), BUNDLES[: STAND[at]])
                    self.assertEqual(kept_bundles(rows + ROWS, 64), BUNDLES[: STAND[at]])

    def test_a_wrong_check(self):
        for at, row in enumerate(ROWS):
            for place in range(len(row)):
                other = row[:place] + ("1" if row[place] != "1" else "2") + row[place + 1 :]
                with self.subTest(at=at, place=place):
                    self.assertEqual(kept_bundles(ROWS[:at] + [other] + ROWS[at + 1 :], 64), BUNDLES[: STAND[at]])

    def test_another_form(self):
        forms = [
            "",
            "00",
            with_check("0"),
            with_check("k"),
            with_check("k1"),
            with_check("k001"),
            with_check("k 1"),
            with_check("K01"),
            with_check("000"),
            with_check("01" + "x" * 64),
            with_check("01" + " " * 64),
            with_check("01" + LEAF_TEXT[:-1]),
            with_check("01" + LEAF_TEXT[:-1] + "0"),
            with_check("01" + LEAF_TEXT + "0"),
            with_check("1" + LEAF_TEXT),
            with_check("001" + LEAF_TEXT),
            with_check(" 1" + LEAF_TEXT),
            with_check("0~" + LEAF_TEXT),
            with_check("01" + text_by_hand("l", "0", 65)),
            with_check(LEAF_TEXT),
            LEAF_TEXT,
        ]
        for at in range(len(ROWS) + 1):
            for form in forms:
                with self.subTest(at=at, form=form):
                    self.assertEqual(kept_bundles(ROWS[:at] + [form] + ROWS[at:], 64), BUNDLES[: STAND[at]])

    def test_a_k_of_another_number(self):
        for at, row in enumerate(ROWS):
            if len(row) > 5:
                continue
            for many in (0, 1, 2, 3, 4, 64, 4095):
                if last_row_by_hand(many) != row:
                    with self.subTest(at=at, many=many):
                        rows = ROWS[:at] + [last_row_by_hand(many)] + ROWS[at + 1 :]
                        self.assertEqual(kept_bundles(rows, 64), BUNDLES[: STAND[at]])

    def test_a_k_behind_a_k(self):
        for many in (0, 1, 2, 3):
            for start in (0, 3):
                with self.subTest(many=many, start=start):
                    rows = ROWS[:start] + [last_row_by_hand(many)] + ROWS[start:]
                    self.assertEqual(kept_bundles(rows, 64), BUNDLES[: STAND[start]])

    def test_what_is_handed_in_stays_and_what_is_told_may_be_changed(self):
        rows = list(ROWS)
        bundles = kept_bundles(rows, 64)
        bundles[0].clear()
        bundles.pop()
        self.assertEqual(rows, ROWS)
        self.assertEqual(kept_bundles(rows, 64), BUNDLES)


if __name__ == "__main__":
    unittest.main()
