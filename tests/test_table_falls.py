import copy
import unittest

from leafhouse.disk import Disk
from leafhouse.table import Table
from tests.helper import assert_refused, walked


def bundle(*deeds):
    return ("bundle", deeds)


def put(key, long):
    return ("put", key, "v" * long)


DEEDS = (
    put("key one", 5),
    put("key two", 70),
    bundle(put("key three", 8), put("key four", 9), ("take", "key one"), put("key five", 130)),
    ("rest",),
    put("key two", 3),
    put("twelve signs", 0),
    bundle(("undo", put("key six", 400), ("take", "key two")), put("key seven", 1)),
    ("take", "key five"),
    bundle(*[put(f"many keys {turn}", turn * 3) for turn in range(12)]),
    ("rest",),
    ("take", "key four"),
    bundle(*[("take", f"many keys {turn}") for turn in range(1, 12)]),
    put("key one", 400),
    put("key one", 399),
    bundle(put("key two", 57), put("key two", 58)),
    ("take", "many keys 0"),
)


def do(table, deed):
    if deed[0] == "bundle":
        table.begin()
        for each in deed[1]:
            if each[0] == "undo":
                for inner in each[1:]:
                    do(table, inner)
                table.undo()
                table.begin()
            else:
                do(table, each)
        table.keep()
    elif deed[0] == "put":
        table.put(deed[1], deed[2])
    elif deed[0] == "take":
        table.take(deed[1])
    else:
        table.rest()


def done(plain, deed):
    """A dict behind a deed."""
    after = dict(plain)
    if deed[0] == "bundle":
        for each in deed[1]:
            after = done(after, each)
    elif deed[0] == "put":
        after[deed[1]] = deed[2]
    elif deed[0] == "take":
        after.pop(deed[1])
    return after


class TestFalls(unittest.TestCase):
    def assert_tells(self, table, plain):
        self.assertEqual(walked(self, table.store).values, plain)
        self.assertEqual((table.all_keys(), table.many()), (sorted(plain), len(plain)))
        self.assertEqual([table.get(key) for key in sorted(plain)], [plain[key] for key in sorted(plain)])
        self.assertIs(table.is_open(), False)

    def told(self, table):
        return dict([(key, table.get(key)) for key in table.all_keys()])

    def writes_of(self, disk, doing):
        """How many writes are done by something that is done with a disk's copy."""
        disk = copy.deepcopy(disk)
        writes = disk.writes()
        doing(disk)
        return disk.writes() - writes

    def assert_up(self, disk, allowed):
        """What comes up from a disk is one of these, whole, and goes on."""
        table = Table(disk, 40)
        plain = self.told(table)
        self.assertIn(plain, allowed)
        self.assertEqual(disk.rows(), [])
        self.assert_tells(table, plain)
        writes = disk.writes()
        table = Table(disk, 3)
        self.assertEqual(disk.writes(), writes)
        more = bundle(put("behind all", 60), put("key two", 20))
        do(table, more)
        self.assert_tells(Table(disk, 40), done(plain, more))
        return plain

    def fall_amid(self, table, deed, plain, cuts):
        """The power goes at each write of a deed; tells how often the deed was there, and how often not."""
        after = done(plain, deed)
        told = []
        for turn in range(1, self.deed_writes(table, deed) + 1):
            for cut in cuts:
                fallen = copy.deepcopy(table)
                disk = fallen.store.disk
                disk.fall(turn, cut)
                assert_refused(self, "PowerGone", do, fallen, deed)
                self.assertIs(disk.is_off(), True)
                disk.up()
                fallen = copy.deepcopy(disk)
                with self.subTest(deed=deed, turn=turn, cut=cut):
                    told.append(self.assert_up(disk, [plain, after]) == after)
                    self.fall_amid_coming_up(fallen, after if told[-1] else plain)
        return told

    def deed_writes(self, table, deed):
        tried = copy.deepcopy(table)
        writes = tried.store.disk.writes()
        do(tried, deed)
        return tried.store.disk.writes() - writes

    def fall_amid_coming_up(self, disk, plain):
        turns = self.writes_of(disk, Table)
        for turn in sorted({turns // 2, turns} & set(range(1, turns + 1))):
            fallen = copy.deepcopy(disk)
            fallen.fall(turn, 11)
            assert_refused(self, "PowerGone", Table, fallen)
            fallen.up()
            self.assertEqual(self.told(Table(fallen, 40)), plain)

    def test_a_fall_at_every_write_of_a_run(self):
        for size, most, cuts in ((64, 2, (0, 30, 500)), (200, 8, (100,))):
            table = Table(Disk(size), most)
            plain = {}
            told = []
            for deed in DEEDS:
                told.extend(self.fall_amid(table, deed, plain, cuts))
                do(table, deed)
                plain = done(plain, deed)
                self.assert_tells(table, plain)
            self.assertIn(True, told)
            self.assertIn(False, told)

    def test_a_deed_is_there_as_its_last_row_stands(self):
        # A put into an empty table has three rows: the head's, the leaf's and the last one.
        for turn, cut, there in ((1, 500, False), (2, 500, False), (3, 4, False), (3, 5, True)):
            disk = Disk(64)
            table = Table(disk)
            disk.fall(turn, cut)
            assert_refused(self, "PowerGone", table.put, "key", "value")
            disk.up()
            with self.subTest(turn=turn, cut=cut):
                self.assertEqual(self.told(Table(disk)), {"key": "value"} if there else {})

    def test_what_a_bundle_left_open_did_is_gone(self):
        disk = Disk(64)
        table = Table(disk)
        table.put("key", "value")
        table.begin()
        table.take("key")
        table.put("other", "v" * 200)
        self.assertEqual(self.told(table), {"other": "v" * 200})
        self.assertEqual(self.told(Table(disk)), {"key": "value"})

    def test_a_fall_as_the_first_table_comes_up(self):
        for turn in range(1, 7):
            for cut in (0, 3, 64, 500):
                disk = Disk(64)
                disk.fall(turn, cut)
                assert_refused(self, "PowerGone", Table, disk)
                disk.up()
                self.assert_tells(Table(disk), {})


if __name__ == "__main__":
    unittest.main()
