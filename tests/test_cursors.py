import random
import unittest

from leafhouse.cursors import Cursor
from leafhouse.disk import Disk
from leafhouse.table import Table
from tests.helper import assert_refused, pages_of, things_but

NO_KEYS = ["", "a" * 13, "a\t", "\n"]


def table_of(keys, size=64):
    table = Table(Disk(size), 4)
    table.begin()
    for key in keys:
        table.put(key, "v" * (len(key) % 9))
    table.keep()
    return table


class TestGoing(unittest.TestCase):
    def test_through_all_keys_and_back(self):
        for many in (0, 1, 2, 30):
            keys = [f"the key {turn:03}" for turn in range(many)]
            table = table_of(keys[::-1])
            for cursor in (table.cursor(), Cursor(table)):
                self.assertIsNone(cursor.at())
                told = []
                for key in keys:
                    told.append(cursor.forth())
                    self.assertEqual(cursor.at(), key)
                self.assertEqual(told, keys)
                for turn in range(2):
                    self.assertIsNone(cursor.forth())
                    self.assertIsNone(cursor.at())
                for key in keys[::-1]:
                    self.assertEqual((cursor.back(), cursor.at()), (key, key))
                for turn in range(2):
                    self.assertIsNone(cursor.back())
                    self.assertIsNone(cursor.at())
                self.assertEqual(cursor.forth(), keys[0] if keys else None)

    def test_to_start_and_to_end(self):
        cursor = table_of("abc").cursor()
        self.assertIsNone(cursor.to_end())
        self.assertIsNone(cursor.at())
        self.assertIsNone(cursor.forth())
        self.assertEqual(cursor.back(), "c")
        self.assertIsNone(cursor.to_start())
        self.assertIsNone(cursor.at())
        self.assertIsNone(cursor.back())
        self.assertEqual([cursor.forth(), cursor.forth()], ["a", "b"])
        cursor.to_end()
        cursor.to_start()
        self.assertEqual(cursor.forth(), "a")

    def test_to_a_key_there_or_not(self):
        cursor = table_of(["b", "d", "f"]).cursor()
        told = {"a": ("b", None), "b": ("d", None), "c": ("d", "b"), "d": ("f", "b")}
        told.update({"f": (None, "d"), "g": (None, "f")})
        for key, (forth, back) in told.items():
            with self.subTest(key):
                self.assertIsNone(cursor.to(key))
                self.assertEqual(cursor.at(), key)
                self.assertEqual((cursor.forth(), cursor.at()), (forth, forth))
                cursor.to(key)
                self.assertEqual((cursor.back(), cursor.at()), (back, back))

    def test_behind_all_and_ahead_of_all_it_stays(self):
        table = table_of("b")
        cursor, other = table.cursor(), table.cursor()
        cursor.to("b")
        self.assertIsNone(cursor.forth())
        other.to("b")
        self.assertIsNone(other.back())
        table.put("c", "")
        table.put("a", "")
        self.assertIsNone(cursor.forth())
        self.assertIsNone(other.back())
        self.assertEqual((cursor.back(), other.forth()), ("c", "a"))


class TestChanges(unittest.TestCase):
    def test_keys_that_come_and_go(self):
        table = table_of("bdf")
        cursor = table.cursor()
        table.put("a", "")
        self.assertEqual(cursor.forth(), "a")
        table.take("a")
        self.assertEqual(cursor.at(), "a")
        self.assertEqual(cursor.forth(), "b")
        table.take("b")
        table.take("d")
        table.put("c", "")
        self.assertEqual(cursor.at(), "b")
        self.assertEqual(cursor.forth(), "c")
        table.take("f")
        self.assertIsNone(cursor.forth())
        table.put("z", "")
        self.assertIsNone(cursor.at())
        self.assertIsNone(cursor.forth())
        self.assertEqual(cursor.back(), "z")

    def test_the_key_where_it_stands_goes_and_comes(self):
        table = table_of("abc")
        cursor = table.cursor()
        cursor.to("b")
        for turn in range(3):
            table.take("b")
            self.assertEqual(cursor.at(), "b")
            table.put("b", "again")
            self.assertEqual(cursor.at(), "b")
        table.take("b")
        self.assertEqual((cursor.back(), cursor.forth()), ("a", "c"))

    def test_bundles_that_are_undone(self):
        table = table_of([f"key {turn:02}" for turn in range(0, 40, 2)])
        cursor, other = table.cursor(), table.cursor()
        cursor.to("key 10")
        table.begin()
        for turn in range(1, 40, 2):
            table.put(f"key {turn:02}", "v" * 100)
        for turn in range(0, 40, 4):
            table.take(f"key {turn:02}")
        self.assertEqual([cursor.forth(), cursor.forth(), cursor.forth()], ["key 11", "key 13", "key 14"])
        self.assertEqual(cursor.forth(), "key 15")
        other.to_end()
        self.assertEqual([other.back(), other.back()], ["key 39", "key 38"])
        table.undo()
        self.assertEqual((cursor.at(), other.at()), ("key 15", "key 38"))
        self.assertEqual((cursor.forth(), other.back()), ("key 16", "key 36"))
        self.assertEqual(cursor.back(), "key 14")

    def test_several_at_once_held_against_plain_ones(self):
        chance = random.Random(8)
        for size in (64, 200):
            table = table_of([], size)
            keys = {}
            kept = None
            cursors = [(table.cursor(), Plain()) for turn in range(4)]
            for turn in range(500):
                key = "".join(chance.choices("abcd", k=chance.randrange(1, 4)))
                if turn % 25 == 10:
                    kept = dict(keys)
                    table.begin()
                if turn % 25 == 20:
                    if chance.randrange(2):
                        table.undo()
                        keys = kept
                    else:
                        table.keep()
                if chance.randrange(5) < 3:
                    table.put(key, "v" * chance.randrange(20))
                    keys[key] = True
                elif key in keys:
                    table.take(key)
                    keys.pop(key)
                elif keys:
                    key = chance.choice(sorted(keys))
                    table.take(key)
                    keys.pop(key)
                for cursor, plain in cursors:
                    self.assertEqual(cursor.at(), plain.at())
                    self.go(chance, cursor, plain, sorted(keys), key)

    def go(self, chance, cursor, plain, keys, key):
        turn = chance.randrange(20)
        if turn < 9:
            self.assertEqual(cursor.forth(), plain.forth(keys))
        elif turn < 16:
            self.assertEqual(cursor.back(), plain.back(keys))
        elif turn < 18:
            cursor.to(key)
            plain.stands = (1, key)
        elif turn < 19:
            cursor.to_start()
            plain.stands = (0, "")
        else:
            cursor.to_end()
            plain.stands = (2, "")
        self.assertEqual(cursor.at(), plain.at())


class Plain:
    """Where a cursor stands: (0, "") ahead of all, (1, key), (2, "") behind all."""

    def __init__(self):
        self.stands = (0, "")

    def at(self):
        return self.stands[1] or None

    def forth(self, keys):
        self.stands = min([(1, key) for key in keys if (1, key) > self.stands], default=(2, ""))
        return self.at()

    def back(self, keys):
        self.stands = max([(1, key) for key in keys if (1, key) < self.stands], default=(0, ""))
        return self.at()


class TestRefusals(unittest.TestCase):
    def test_to_what_is_no_key(self):
        table = table_of("abc")
        before = pages_of(table.store)
        standing = {"ahead": Cursor.to_start, "behind": Cursor.to_end, "at": lambda cursor: cursor.to("b")}
        told = {"ahead": ("a", None), "behind": (None, "c"), "at": ("c", "a")}
        for name, stand in standing.items():
            for at, thing in enumerate(NO_KEYS + things_but(str)):
                with self.subTest(name=name, at=at):
                    cursor, other = table.cursor(), table.cursor()
                    for each in (cursor, other):
                        stand(each)
                        assert_refused(self, "BadKey", each.to, thing)
                        self.assertEqual(each.at(), "b" if name == "at" else None)
                    self.assertEqual((cursor.forth(), other.back()), told[name])
        self.assertEqual(pages_of(table.store), before)

    def test_a_cursor_changes_nothing(self):
        table = table_of([f"key {turn}" for turn in range(30)])
        disk = table.store.disk
        before = (pages_of(table.store), disk.writes(), table.is_open(), table.touched())
        cursor = table.cursor()
        while cursor.forth() is not None:
            pass
        cursor.to("key 7")
        cursor.back()
        self.assertEqual((pages_of(table.store), disk.writes(), table.is_open(), table.touched()), before)


if __name__ == "__main__":
    unittest.main()
