import random
import unittest

from leafhouse.pages import is_page
from leafhouse.parting import is_too_long, is_too_short, joined, least_body, parted
from tests.helper import ALL_SIGNS, many_keys

SIZES = (64, 65, 67, 71, 72, 80, 100, 128, 199, 200)


def key_at(place, long):
    """Keys of whatever lengths, rising by their first signs."""
    return ALL_SIGNS[place + 1] + "x" * (long - 1)


def leaf_of(longs):
    """A leaf of rows, (how long the key is, how long the text of the cell or None for rests) each."""
    cells = [("out", 400, 9) if cell is None else ("in", "v" * cell) for key, cell in longs]
    return ("leaf", tuple([(key_at(place, longs[place][0]), cell) for place, cell in enumerate(cells)]))


def fork_of(longs):
    keys = [key_at(place, long) for place, long in enumerate(longs)]
    return ("fork", tuple(keys), tuple(range(1, len(keys) + 2)))


class TestFullness(unittest.TestCase):
    def test_a_quarter_of_the_room(self):
        told = {64: 14, 65: 15, 68: 15, 69: 16, 100: 23, 105: 25, 199: 48, 200: 48}
        for size, least in told.items():
            with self.subTest(size):
                self.assertEqual(least_body(size), least)

    def test_too_short(self):
        # A leaf with one row: 1 + 1 + key + 2 + text.
        for long, told in ((4, True), (7, True), (8, False), (9, False), (50, False)):
            leaf = ("leaf", (("ab", ("in", "v" * long)),))
            with self.subTest(long):
                self.assertIs(is_too_short(leaf, 64), told)
        # A fork with one key: 1 + 1 + key + 4.
        for long, told in ((1, True), (7, True), (8, False), (12, False)):
            with self.subTest(long):
                self.assertIs(is_too_short(("fork", ("k" * long,), (1, 2)), 64), told)
        self.assertIs(is_too_short(("leaf", ()), 64), True)
        self.assertIs(is_too_short(("fork", ("k" * 12,), (1, 2)), 200), True)

    def test_too_long(self):
        for long, told in ((1, False), (52, False), (53, False), (54, True), (60, True)):
            leaf = ("leaf", (("ab", ("in", "v" * long)),))
            with self.subTest(long):
                self.assertIs(is_too_long(leaf, 64), told)
                self.assertIs(is_too_long(leaf, 200), False)
        self.assertIs(is_too_long(("fork", many_keys(8, 4), tuple(range(1, 10))), 64), False)
        self.assertIs(is_too_long(("fork", many_keys(8, 4)[:7] + ("zzzzz",), tuple(range(1, 10))), 64), True)


class TestParting(unittest.TestCase):
    def assert_parted(self, page, size):
        left, key, right = parted(page)
        for each in (left, right):
            self.assertTrue(is_page(each))
            self.assertFalse(is_too_long(each, size))
            self.assertFalse(is_too_short(each, size))
        self.assertEqual(joined(left, key, right), page)
        if page[0] == "leaf":
            self.assertEqual(left[1] + right[1], page[1])
            self.assertLess(left[1][-1][0], key)
            self.assertLessEqual(key, right[1][0][0])
        else:
            self.assertEqual(left[1] + (key,) + right[1], page[1])
            self.assertEqual(left[2] + right[2], page[2])

    def test_parted_by_hand(self):
        rows = leaf_of([(1, 5)] * 4)[1]
        self.assertEqual(parted(("leaf", rows)), (("leaf", rows[:2]), rows[2][0], ("leaf", rows[2:])))
        rows = leaf_of([(1, 20), (1, 1), (1, 1), (1, 1)])[1]
        self.assertEqual(parted(("leaf", rows)), (("leaf", rows[:1]), rows[1][0], ("leaf", rows[1:])))
        fork = ("fork", ("a", "b", "c"), (1, 2, 3, 4))
        self.assertEqual(parted(fork), (("fork", ("a",), (1, 2)), "b", ("fork", ("c",), (3, 4))))
        fork = ("fork", ("a", "b", "twelve signs"), (1, 2, 3, 4))
        self.assertEqual(parted(fork), (("fork", ("a", "b"), (1, 2, 3)), "twelve signs", ("fork", (), (4,))))

    def test_joined_by_hand(self):
        rows = leaf_of([(1, 5)] * 4)[1]
        self.assertEqual(joined(("leaf", rows[:1]), rows[1][0], ("leaf", rows[1:])), ("leaf", rows))
        self.assertEqual(joined(("leaf", ()), "x", ("leaf", ())), ("leaf", ()))
        fork = joined(("fork", ("a",), (1, 2)), "b", ("fork", (), (3,)))
        self.assertEqual(fork, ("fork", ("a", "b"), (1, 2, 3)))

    def grown(self, chance, size, few):
        """A leaf that fits with a row more, so that it is too long; few keeps the rows long."""
        longs = []
        while not is_too_long(leaf_of(longs), size):
            cell = chance.choice([None, 0, size // 8, size // 8, chance.randrange(size // 8 + 1)])
            longs.insert(chance.randrange(len(longs) + 1), (12, size // 8) if few else (chance.randrange(1, 13), cell))
        return leaf_of(longs)

    def test_a_leaf_that_is_too_long_by_one_row(self):
        chance = random.Random(1)
        for size in SIZES:
            for turn in range(120):
                leaf = self.grown(chance, size, turn == 0)
                with self.subTest(size=size, turn=turn):
                    self.assert_parted(leaf, size)

    def test_a_leaf_whose_row_has_become_longer(self):
        for size in SIZES:
            for long in range(1, 13):
                # Rows of one length up to the room, and the longest one in the place of one of them.
                longs = []
                while not is_too_long(leaf_of(longs + [(long, 0)]), size):
                    longs.append((long, 0))
                for at in (0, len(longs) // 2, len(longs) - 1):
                    longer = leaf_of(longs[:at] + [(12, size // 8)] + longs[at + 1 :])
                    if is_too_long(longer, size):
                        with self.subTest(size=size, long=long, at=at):
                            self.assert_parted(longer, size)

    def test_a_fork_that_is_too_long_by_one_key(self):
        chance = random.Random(2)
        for size in SIZES:
            for turn in range(120):
                longs = []
                while not is_too_long(fork_of(longs), size):
                    long = chance.randrange(1, 13) if turn else 12
                    longs.insert(chance.randrange(len(longs) + 1), long)
                with self.subTest(size=size, turn=turn):
                    self.assert_parted(fork_of(longs), size)

    def test_neighbours_of_which_one_is_too_short(self):
        chance = random.Random(3)
        for size in SIZES:
            for turn in range(120):
                longs = []
                while not is_too_long(leaf_of(longs), size):
                    longs.append((chance.randrange(1, 13), chance.choice([None, 0, size // 8])))
                whole = leaf_of(longs[:-1])
                short = ("leaf", (("~" if turn % 2 else " ", ("in", "v" * chance.randrange(8))),))
                left, right = (whole, short) if turn % 2 else (short, whole)
                page = joined(left, "key", right)
                with self.subTest(size=size, turn=turn):
                    if is_too_long(page, size):
                        self.assert_parted(page, size)
                    else:
                        self.assertEqual(page, ("leaf", left[1] + right[1]))

    def test_forks_of_which_one_is_too_short(self):
        chance = random.Random(4)
        for size in SIZES:
            for turn in range(120):
                longs = []
                while not is_too_long(fork_of(longs), size):
                    longs.append(chance.randrange(1, 13))
                short = ("fork", ("~",), (70, 71))
                page = joined(fork_of(longs[:-1]), "}" + "x" * chance.randrange(12), short)
                with self.subTest(size=size, turn=turn):
                    self.assertTrue(is_page(page))
                    if is_too_long(page, size):
                        self.assert_parted(page, size)


if __name__ == "__main__":
    unittest.main()
