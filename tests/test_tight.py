import random
import unittest

from leafhouse.disk import Disk
from leafhouse.looker import faults
from leafhouse.pages import page_of
from leafhouse.table import Table
from leafhouse.tight import tight
from tests.helper import ALL_SIGNS, assert_refused, pages_of, pages_on, things_but, walked

SIZES = (64, 65, 71, 72, 100, 150, 199, 200)


def table_of(plain, size=64):
    table = Table(Disk(size), 40)
    table.begin()
    for key, value in plain.items():
        table.put(key, value)
    table.keep()
    return table


def some_values(chance, many, size, longs=None):
    plain = {}
    for turn in range(many):
        key = "".join(chance.choices("abcd", k=chance.choice([1, 2, 3, 12, 12])))
        long = chance.choice(longs or [0, 1, 8, size // 8, size // 8 + 1, size - 7, size - 6, 400])
        plain[key] = "".join(chance.choices(ALL_SIGNS, k=long))
    return plain


def fewest_leaves(plain, size):
    """How few leaves hold all rows, each as long as the size allows and, where there are several, a quarter at least;
    reckoned by trying each place at which a leaf may begin."""
    least, most = (size - 5) // 4, size - 5
    cells = [(key, 2 + len(plain[key]) if len(plain[key]) <= size // 8 else 5) for key in sorted(plain)]
    rows = [1 + len(key) + cell for key, cell in cells]
    if 1 + sum(rows) <= most:
        return 1
    fewest = {0: 0}
    for end in range(1, len(rows) + 1):
        tries = []
        for start in range(end - 1, -1, -1):
            long = 1 + sum(rows[start:end])
            if long > most:
                break
            if long >= least and start in fewest:
                tries.append(fewest[start] + 1)
        if tries:
            fewest[end] = min(tries)
    return fewest[len(rows)]


class Tight(unittest.TestCase):
    def assert_tight(self, disk, size, plain):
        self.assertIsInstance(disk, Disk)
        self.assertEqual((disk.size, disk.rows(), disk.is_off()), (size, [], False))
        self.assertEqual({len(text) for text in disk.pages()}, {size})
        self.assertEqual(faults(disk.pages()), [])
        pages = pages_on(disk)
        self.assertEqual(pages[0][3:], (len(plain), 0))
        self.assertNotIn("free", [page[0] for page in pages])
        leaves = [page for page in pages if page[0] == "leaf"]
        self.assertEqual(len(leaves), fewest_leaves(plain, size))
        writes = disk.writes()
        table = Table(disk)
        self.assertEqual(disk.writes(), writes)
        self.assertEqual(walked(self, table.store).values, plain)
        self.assertEqual((table.all_keys(), table.many()), (sorted(plain), len(plain)))
        self.assertEqual([table.get(key) for key in sorted(plain)], [plain[key] for key in sorted(plain)])


class TestTight(Tight):
    def test_no_and_few_keys(self):
        for size in SIZES:
            for plain in ({}, {"a": ""}, {"a": "v" * 400}, {"a": "", "b": "v" * 9, "twelve signs": "x" * 60}):
                table = table_of(plain)
                with self.subTest(size=size, many=len(plain)):
                    self.assert_tight(tight(table, size), size, plain)
        self.assertEqual(pages_on(tight(table_of({}), 64)), [("head", 1, 1, 0, 0), ("leaf", ())])

    def test_many_keys_of_a_size_into_others(self):
        chance = random.Random(13)
        for size in SIZES:
            for many in (5, 17, 60):
                plain = some_values(chance, many, size)
                table = table_of(plain, chance.choice(SIZES))
                with self.subTest(size=size, many=many):
                    self.assert_tight(tight(table, size), size, plain)

    def test_each_number_of_keys(self):
        chance = random.Random(14)
        for size in (64, 65, 90):
            plain = {}
            for turn in range(45):
                plain[f"{turn:02}" + "x" * chance.choice([0, 9, 10])] = "v" * chance.choice([0, size // 8])
                self.assert_tight(tight(table_of(plain, 200), size), size, plain)

    def test_rows_of_one_length(self):
        for size in (64, 200):
            for long in (1, 12):
                for text in (0, size // 8):
                    plain = {}
                    for sign in "abcdefghijklmnopqrstuvwxyz":
                        plain[sign * long] = "v" * text
                        self.assert_tight(tight(table_of(plain, size), size), size, plain)

    def test_deep_ones(self):
        plain = dict([(f"{number:012}", f"{number % 100000000:08}") for number in range(300)])
        disk = tight(table_of(plain, 64), 64)
        self.assert_tight(disk, 64, plain)
        self.assertGreater(pages_on(disk)[0][2], 4)

    def test_leaves_that_are_loose_become_fewer(self):
        table = table_of(dict([(f"{number:012}", "v" * 8) for number in range(60)]))
        for number in range(0, 60, 2):
            table.take(f"{number:012}")
        plain = dict([(key, table.get(key)) for key in table.all_keys()])
        disk = tight(table, 64)
        self.assert_tight(disk, 64, plain)
        loose = [page for page in pages_of(table.store) if page[0] == "leaf"]
        self.assertLess(len([page for page in pages_on(disk) if page[0] == "leaf"]), len(loose))

    def test_the_new_table_goes_on(self):
        chance = random.Random(15)
        plain = some_values(chance, 40, 64)
        table = Table(tight(table_of(plain), 64))
        for key in sorted(plain)[::2]:
            table.take(key)
            plain.pop(key)
        for turn in range(20):
            plain[f"new {turn}"] = "v" * turn
            table.put(f"new {turn}", "v" * turn)
        self.assertEqual(walked(self, table.store).values, plain)
        self.assert_tight(tight(table, 100), 100, plain)


class TestTheTableStays(Tight):
    def state(self, table):
        disk = table.store.disk
        told = (table.all_keys(), table.many(), table.is_open(), table.touched(), pages_of(table.store))
        return told + (disk.pages(), disk.rows(), disk.writes())

    def test_it_stays_as_it_was(self):
        chance = random.Random(16)
        plain = some_values(chance, 25, 64)
        table = table_of(plain)
        table.put("last", "one")
        plain["last"] = "one"
        table.get(min(plain))
        view = table.view()
        before = self.state(table)
        for size in (64, 200):
            self.assert_tight(tight(table, size), size, plain)
            self.assertEqual(self.state(table), before)
        self.assertEqual(view.all_keys(), sorted(plain))

    def test_with_a_bundle_open(self):
        chance = random.Random(17)
        plain = some_values(chance, 25, 64)
        table = table_of(plain)
        table.begin()
        inside = dict(plain)
        for key in sorted(plain)[::3]:
            table.take(key)
            inside.pop(key)
        table.put("in the one", "v" * 100)
        inside["in the one"] = "v" * 100
        before = self.state(table)
        for size in (64, 131):
            self.assert_tight(tight(table, size), size, inside)
            self.assertEqual(self.state(table), before)
        self.assertIs(table.is_open(), True)
        table.undo()
        self.assertEqual(walked(self, table.store).values, plain)
        self.assert_tight(tight(table, 64), 64, plain)

    def test_two_disks_of_which_one_is_changed(self):
        plain = {"a": "v" * 70, "b": ""}
        table = table_of(plain)
        one, other = tight(table, 64), tight(table, 64)
        self.assertEqual(one.pages(), other.pages())
        pages = one.pages()
        changed = Table(other)
        changed.put("c", "d")
        changed.take("a")
        changed.rest()
        self.assertEqual(one.pages(), pages)
        self.assert_tight(one, 64, plain)
        self.assertEqual(table.all_keys(), ["a", "b"])
        self.assertEqual(Table(other).all_keys(), ["b", "c"])
        self.assertEqual(page_of(one.pages()[0])[3], 2)

    def test_what_is_no_size(self):
        table = table_of({"a": "b"})
        before = self.state(table)
        for at, thing in enumerate([63, 201, 64.0, "64"] + things_but()):
            with self.subTest(at):
                assert_refused(self, "BadSize", tight, table, thing)
        self.assertEqual(self.state(table), before)
        for size in (64, 200):
            self.assert_tight(tight(table, size), size, {"a": "b"})


if __name__ == "__main__":
    unittest.main()
