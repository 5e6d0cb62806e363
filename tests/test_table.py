import random
import unittest

from leafhouse.cursors import Cursor
from leafhouse.disk import Disk
from leafhouse.store import Store
from leafhouse.table import Table
from leafhouse.views import View
from tests.helper import (
    ALL_SIGNS,
    assert_asked_as_told,
    assert_refused,
    pages_of,
    things_but,
    walked,
)

SIZES = (64, 65, 71, 72, 100, 128, 199, 200)
NO_KEYS = ["", "a" * 13, "a\t", "\n", "key\n"]
NO_VALUES = ["v" * 401, "v\t", "\n", "v" * 100 + "\n"]


def value_of(long):
    return (ALL_SIGNS * 5)[:long]


def edge_longs(size):
    """The lengths of values at which something changes."""
    one = size - 7
    longs = [0, 1, size // 8, size // 8 + 1, one, one + 1, 2 * one, 2 * one + 1, 399, 400]
    return sorted({min(long, 400) for long in longs})


class TestValues(unittest.TestCase):
    def test_each_edge_of_each_size(self):
        for size in SIZES:
            table = Table(Disk(size))
            plain = {}
            for turn, long in enumerate(edge_longs(size)):
                plain[f"key {turn}"] = value_of(long)
                self.assertIsNone(table.put(f"key {turn}", value_of(long)))
            for turn in range(2):
                for key, value in plain.items():
                    with self.subTest(size=size, long=len(value)):
                        self.assertEqual(table.get(key), value)
                        self.assertIs(table.has(key), True)
                self.assertEqual(walked(self, table.store).values, plain)
                table = Table(table.store.disk, 2)

    def test_each_edge_over_each_other_one(self):
        for size in (64, 200):
            table = Table(Disk(size), 40)
            pages = 0
            for turn in range(2):
                for long in edge_longs(size):
                    for other in edge_longs(size):
                        table.put("key", value_of(long))
                        table.put("key", value_of(other)[::-1])
                        with self.subTest(size=size, long=long, other=other):
                            self.assertEqual(table.get("key"), value_of(other)[::-1])
                            self.assertEqual(walked(self, table.store).values, {"key": value_of(other)[::-1]})
                # What is free is used anew.
                self.assertIn(pages, (0, len(pages_of(table.store))))
                pages = len(pages_of(table.store))

    def test_keys_of_all_signs_and_lengths(self):
        keys = sorted(list(ALL_SIGNS) + [ALL_SIGNS[at : at + 12] for at in range(0, 90, 3)] + [" " * 12, "~" * 12])
        table = Table(Disk(64))
        for key in keys[::2] + keys[1::2]:
            table.put(key, key[::-1])
        self.assertEqual(table.all_keys(), keys)
        self.assertEqual([table.get(key) for key in keys], [key[::-1] for key in keys])
        self.assertEqual(table.many(), len(keys))

    def test_a_new_table(self):
        table = Table(Disk(64))
        self.assertEqual((table.many(), table.all_keys(), table.is_open(), table.touched()), (0, [], False, []))
        self.assertIs(table.has("a"), False)
        self.assertIsInstance(table.store, Store)
        self.assertIsInstance(table.cursor(), Cursor)
        self.assertIsInstance(table.view(), View)


class Twin:
    """A table and a plain dict beside it."""

    def __init__(self, case, size, most, seed):
        self.case = case
        self.chance = random.Random(seed)
        self.size = size
        self.most = most
        self.table = Table(Disk(size), most)
        self.plain = {}
        self.kept = None
        self.walk = walked(case, self.table.store)

    def key(self):
        return "".join(self.chance.choices("ab~ ", k=self.chance.choice([1, 2, 3, 4, 12])))

    def value(self):
        long = self.chance.choice(edge_longs(self.size) + [self.chance.randrange(self.size // 8)] * 4)
        return "".join(self.chance.choices(ALL_SIGNS, k=long))

    def known(self):
        return self.chance.choice(sorted(self.plain)) if self.plain and self.chance.randrange(5) else self.key()

    def deed(self, growing):
        if self.chance.randrange(3) < growing:
            key, value = self.chance.choice([self.key, self.known])(), self.value()
            self.case.assertIsNone(self.table.put(key, value))
            self.plain[key] = value
        else:
            key = self.known()
            if key in self.plain:
                self.case.assertIsNone(self.table.take(key))
                self.plain.pop(key)
            else:
                error = assert_refused(self.case, "NoKey", self.table.take, key)
                self.case.assertEqual(error.key, key)
        self.look_at_touched(self.walk)

    def look_at_touched(self, before):
        touched = self.table.touched()
        self.case.assertEqual(touched, sorted(set(touched)))
        after = walked(self.case, self.table.store)
        self.walk = after
        assert_asked_as_told(self.case, before, after, touched)
        used = set(after.levels) | set(after.rests)
        self.case.assertEqual((set(before.free) - used) & set(touched), set())

    def bundle(self):
        """Begins a bundle, or ends the one that is open."""
        if self.kept is None:
            self.case.assertIsNone(self.table.begin())
            self.kept = dict(self.plain)
        elif self.chance.randrange(2):
            self.case.assertIsNone(self.table.keep())
            self.kept = None
        else:
            self.case.assertIsNone(self.table.undo())
            self.plain, self.kept = self.kept, None

    def rest(self):
        if self.kept is None:
            self.case.assertIsNone(self.table.rest())
            self.case.assertEqual(self.table.store.disk.rows(), [])
        else:
            assert_refused(self.case, "InBundle", self.table.rest)

    def anew(self):
        """A new table upon the disk: what wasn't kept is gone."""
        self.table = Table(self.table.store.disk, self.most)
        self.plain = self.plain if self.kept is None else self.kept
        self.kept = None

    def go(self, turns):
        for turn in range(turns):
            chance = self.chance.randrange(20)
            if chance < 15:
                self.deed(2 if turn < turns // 2 else 1)
                self.look()
                continue
            if chance < 18:
                self.bundle()
            elif chance < 19:
                self.rest()
            else:
                self.anew()
            self.walk = walked(self.case, self.table.store)
            self.look()

    def look(self):
        self.case.assertEqual(self.table.many(), len(self.plain))
        self.case.assertEqual(self.table.all_keys(), sorted(self.plain))
        self.case.assertIs(self.table.is_open(), self.kept is not None)
        self.case.assertEqual(self.walk.values, self.plain)
        key = self.known()
        self.case.assertIs(self.table.has(key), key in self.plain)
        if key in self.plain:
            self.case.assertEqual(self.table.get(key), self.plain[key])
        else:
            self.case.assertEqual(assert_refused(self.case, "NoKey", self.table.get, key).key, key)


class TestDeeds(unittest.TestCase):
    def test_held_against_a_dict(self):
        held = ((64, 2), (64, 40), (65, 3), (71, 8), (100, 5), (128, 2), (200, 40), (200, 2))
        for seed, (size, most) in enumerate(held):
            with self.subTest(size=size, most=most):
                Twin(self, size, most, seed).go(220)

    def test_most_may_be_left_out(self):
        disk = Disk(64)
        Table(disk).put("a", "b")
        for most in (2, 8, 40):
            self.assertEqual(Table(disk, most).get("a"), "b")
        for turn in range(60):
            Table(disk).put(f"key number{turn}", "v" * 8)
        for given, most in (((), 8), ((8,), 8), ((3,), 3)):
            table = Table(disk, *given)
            table.all_keys()
            self.assertEqual(len(table.store.shelf.held()), most)

    def test_a_deed_alone_is_kept_at_once(self):
        disk = Disk(64)
        table = Table(disk)
        self.assertEqual(disk.rows(), [])
        table.put("a", "b")
        # The head and the leaf, and the last row.
        self.assertEqual(len(disk.rows()), 3)
        table.get("a")
        table.has("b")
        table.all_keys()
        self.assertEqual(len(disk.rows()), 3)
        table.take("a")
        self.assertEqual(len(disk.rows()), 6)
        table.rest()
        self.assertEqual(disk.rows(), [])

    def test_a_bundle_is_kept_by_keep_alone(self):
        disk = Disk(64)
        table = Table(disk)
        writes = disk.writes()
        table.begin()
        for turn in range(30):
            table.put(f"key {turn}", "v" * turn)
        for turn in range(0, 30, 2):
            table.take(f"key {turn}")
        self.assertEqual(disk.writes(), writes)
        self.assertEqual(table.many(), 15)
        table.undo()
        self.assertEqual((disk.writes(), table.many(), table.all_keys()), (writes, 0, []))

    def test_a_rest_by_itself_behind_more_than_forty_rows(self):
        disk = Disk(64)
        table = Table(disk)
        for turn in range(13):
            table.put("a", f"{turn}")
        # The leaf and the last row; at first the head too.
        self.assertEqual(len(disk.rows()), 3 + 12 * 2)
        told = []
        for turn in range(8):
            table.put("a", f"again {turn}"[:8])
            told.append(len(disk.rows()))
        self.assertEqual(told, [29, 31, 33, 35, 37, 39, 0, 2])

    def test_the_very_same_value_put_again(self):
        table = Table(Disk(64))
        table.put("a", "b")
        rows = table.store.disk.rows()
        table.put("a", "b")
        self.assertEqual(table.store.disk.rows(), rows)
        table.put("c", value_of(200))
        table.put("c", value_of(200))
        self.assertEqual(walked(self, table.store).values, {"a": "b", "c": value_of(200)})


class TestTouched(unittest.TestCase):
    def setUp(self):
        self.table = Table(Disk(64), 3)
        self.table.begin()
        for turn in range(30):
            self.table.put(f"key no. {turn}", value_of(turn * 13))
        self.table.keep()
        self.walk = walked(self, self.table.store)

    def split(self, touched):
        """The levels of the pages of the tree, sorted, and the others."""
        levels = self.walk.levels
        beside = [each for each in touched if each not in levels]
        return sorted([levels[each] for each in touched if each in levels]), beside

    def test_get_and_has(self):
        for turn in range(30):
            key = f"key no. {turn}"
            long = turn * 13
            value = self.table.get(key)
            touched = self.table.touched()
            levels, beside = self.split(touched)
            with self.subTest(turn):
                self.assertEqual(levels, list(range(1, self.walk.depth + 1)))
                self.assertEqual(len(beside) - 1, 0 if long <= 8 else -(-long // 57))
                self.assertEqual(beside[0], 0)
                self.assertEqual("".join([self.table.store.page(each)[1] for each in self.rests(key)]), value)
                self.assertEqual(sorted(self.rests(key)), beside[1:])
                self.table.has(key)
                self.assertEqual(self.table.touched(), [each for each in touched if each not in beside[1:]])

    def rests(self, key):
        number = dict([row for page in pages_of(self.table.store) if page[0] == "leaf" for row in page[1]])[key]
        numbers = [] if number[0] == "in" else [number[2]]
        while numbers and self.table.store.page(numbers[-1])[2] != 0:
            numbers.append(self.table.store.page(numbers[-1])[2])
        return numbers

    def test_keys_that_are_not_there(self):
        for key in (" ", "key no.", "key no. 15x", "~"):
            self.assertIs(self.table.has(key), False)
            touched = self.table.touched()
            self.assertEqual(self.split(touched), (list(range(1, self.walk.depth + 1)), [0]))
            for ask in (self.table.get, self.table.take):
                self.table.has("key no. 3")
                assert_refused(self, "NoKey", ask, key)
                self.assertEqual(self.table.touched(), touched)

    def test_put_and_take(self):
        for turn in range(30):
            before = walked(self, self.table.store)
            rests = self.rests(f"key no. {turn}")
            self.table.put(f"key no. {turn}", value_of(390 - turn * 13))
            after = walked(self, self.table.store)
            touched = self.table.touched()
            assert_asked_as_told(self, before, after, touched)
            self.assertEqual(set(rests + self.rests(f"key no. {turn}")) - set(touched), set())
        for turn in range(30):
            before = walked(self, self.table.store)
            rests = self.rests(f"key no. {turn}")
            self.table.take(f"key no. {turn}")
            touched = self.table.touched()
            assert_asked_as_told(self, before, walked(self, self.table.store), touched)
            self.assertEqual(set(rests) - set(touched), set())

    def test_no_rest_let_go_is_taken_in_the_same_deed(self):
        for long in (9, 57, 58, 400):
            old = self.rests("key no. 20")
            self.table.put("key no. 20", value_of(long))
            self.assertEqual(set(old) & set(self.rests("key no. 20")), set())
            free = [number for number, page in enumerate(pages_of(self.table.store)) if page[0] == "free"]
            self.assertEqual(set(old) - set(free), set())

    def test_what_a_keep_writes_is_not_touched(self):
        for alone in (True, False):
            if not alone:
                self.table.begin()
            self.table.put("key no. 3", "v")
            touched = self.table.touched()
            self.assertEqual(self.split(touched)[0], list(range(1, self.walk.depth + 1)))
            if not alone:
                self.table.put("another one", "v")
                self.table.has("key no. 3")
                last = self.table.touched()
                self.table.keep()
                self.assertEqual(self.table.touched(), last)

    def test_what_leaves_it_as_it_was(self):
        self.assertEqual(Table(self.table.store.disk).touched(), [])
        self.table.get("key no. 7")
        touched = self.table.touched()
        view, cursor = self.table.view(), self.table.cursor()
        doings = [
            self.table.many,
            self.table.all_keys,
            self.table.is_open,
            self.table.begin,
            self.table.undo,
            self.table.begin,
            self.table.keep,
            self.table.rest,
            self.table.cursor,
            self.table.view,
            cursor.forth,
            cursor.back,
            cursor.to_end,
            cursor.back,
            view.all_keys,
            view.many,
            view.close,
        ]
        for doing in doings:
            doing()
            self.assertEqual(self.table.touched(), touched)
        other = self.table.view()
        other.get("key no. 29")
        other.has("key no. 8")
        for thing in NO_KEYS + [None, 3]:
            assert_refused(self, "BadKey", self.table.get, thing)
            assert_refused(self, "BadKey", self.table.has, thing)
            assert_refused(self, "BadKey", self.table.take, thing)
            assert_refused(self, "BadKey", self.table.put, thing, "v")
        for thing in NO_VALUES + [None, 3]:
            assert_refused(self, "BadValue", self.table.put, "key no. 29", thing)
        assert_refused(self, "NoBundle", self.table.keep)
        self.assertEqual(self.table.touched(), touched)
        self.table.touched().append(7)
        self.table.touched().clear()
        self.assertEqual(self.table.touched(), touched)


class TestRefusals(unittest.TestCase):
    def setUp(self):
        self.table = Table(Disk(64))
        for turn in range(12):
            self.table.put(f"key {turn}", value_of(turn * 9))
        self.table.get("key 3")

    def assert_unchanged(self, state):
        self.assertEqual(self.state(), state)

    def state(self):
        disk = self.table.store.disk
        told = (self.table.all_keys(), self.table.many(), self.table.is_open(), self.table.touched())
        return told + (disk.pages(), disk.rows(), disk.writes(), pages_of(self.table.store))

    def test_what_is_no_key(self):
        for inside in (False, True):
            if inside:
                self.table.begin()
            state = self.state()
            for at, thing in enumerate(NO_KEYS + things_but(str)):
                with self.subTest(inside=inside, at=at):
                    assert_refused(self, "BadKey", self.table.get, thing)
                    assert_refused(self, "BadKey", self.table.has, thing)
                    assert_refused(self, "BadKey", self.table.take, thing)
                    assert_refused(self, "BadKey", self.table.put, thing, "v")
                    assert_refused(self, "BadKey", self.table.put, thing, thing)
                    assert_refused(self, "BadKey", self.table.put, thing, 7)
                    self.assert_unchanged(state)

    def test_what_is_no_value(self):
        for inside in (False, True):
            if inside:
                self.table.begin()
            state = self.state()
            for at, thing in enumerate(NO_VALUES + things_but(str)):
                with self.subTest(inside=inside, at=at):
                    assert_refused(self, "BadValue", self.table.put, "key 3", thing)
                    assert_refused(self, "BadValue", self.table.put, "new", thing)
                    self.assert_unchanged(state)

    def test_no_such_key(self):
        for inside in (False, True):
            if inside:
                self.table.begin()
            for key in (" ", "key", "key 99", "~" * 12):
                self.table.has(key)
                state = self.state()
                for ask in (self.table.get, self.table.take):
                    self.assertEqual(assert_refused(self, "NoKey", ask, key).key, key)
                    self.assert_unchanged(state)

    def test_bundles(self):
        state = self.state()
        assert_refused(self, "NoBundle", self.table.keep)
        assert_refused(self, "NoBundle", self.table.undo)
        self.assert_unchanged(state)
        self.table.begin()
        self.table.put("new", value_of(99))
        state = self.state()
        self.assertIs(self.table.is_open(), True)
        assert_refused(self, "InBundle", self.table.begin)
        assert_refused(self, "InBundle", self.table.rest)
        self.assert_unchanged(state)
        self.table.keep()
        assert_refused(self, "NoBundle", self.table.keep)
        assert_refused(self, "NoBundle", self.table.undo)
        self.assertEqual(self.table.get("new"), value_of(99))

    def test_sizes(self):
        disk = self.table.store.disk
        before = (disk.pages(), disk.rows(), disk.writes())
        for at, thing in enumerate([1, 41, 0, -8, 10**5000] + things_but(int)):
            with self.subTest(at):
                assert_refused(self, "BadSize", Table, disk, thing)
        self.assertEqual((disk.pages(), disk.rows(), disk.writes()), before)

    def test_told_lists_are_the_askers_own(self):
        keys = self.table.all_keys()
        told = list(keys)
        keys.append("more")
        keys.remove("key 3")
        self.assertEqual(self.table.all_keys(), told)
        self.table.put("zzz", "")
        self.assertEqual(told + ["zzz"], self.table.all_keys())


if __name__ == "__main__":
    unittest.main()
