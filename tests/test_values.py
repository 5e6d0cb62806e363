import unittest

from leafhouse.disk import Disk
from leafhouse.store import Store
from leafhouse.values import cell_for, drop_cell, value_at
from tests.helper import ALL_SIGNS, assert_refused, free_row, pages_of, things_but

SIZES = (64, 65, 71, 72, 100, 199, 200)


def open_store(size=64):
    store = Store(Disk(size))
    store.begin()
    return store


def value_of(long):
    return (ALL_SIGNS * 5)[:long]


def parts(value, long):
    """A value parted by hand, so many signs each."""
    told = []
    while value:
        told.append(value[:long])
        value = value[long:]
    return told


class OnlyReads:
    """A reader that is no store."""

    def __init__(self, pages):
        self.pages = pages
        self.asked = []

    def page(self, number):
        self.asked.append(number)
        return self.pages[number]

    def head(self):
        return self.page(0)


class TestCells(unittest.TestCase):
    def test_up_to_an_eighth_of_the_size_in_the_cell(self):
        for size in SIZES:
            store = open_store(size)
            before = pages_of(store)
            for long in (0, 1, size // 8 - 1, size // 8):
                with self.subTest(size=size, long=long):
                    self.assertEqual(cell_for(store, value_of(long)), ("in", value_of(long)))
                    self.assertEqual(value_at(store, ("in", value_of(long))), value_of(long))
                    self.assertIsNone(drop_cell(store, ("in", value_of(long))))
            self.assertEqual(pages_of(store), before)

    def test_longer_ones_in_rests(self):
        for size in SIZES:
            room = size - 7
            longs = [size // 8 + 1, room - 1, room, room + 1, 2 * room - 1, 2 * room, 2 * room + 1, 399, 400]
            for long in sorted({min(each, 400) for each in longs}):
                store = open_store(size)
                value = value_of(long)
                cell = cell_for(store, value)
                texts = parts(value, room)
                numbers = list(range(2, 2 + len(texts)))
                rests = [("rest", each, after) for each, after in zip(texts, numbers[1:] + [0])]
                with self.subTest(size=size, long=long):
                    self.assertEqual(cell, ("out", long, 2))
                    self.assertEqual(pages_of(store)[2:], rests)
                    self.assertEqual(value_at(store, cell), value)
                    self.assertEqual(len(texts), -(-long // room))

    def test_the_edges_of_size_64(self):
        for long, rests in ((8, 0), (9, 1), (57, 1), (58, 2), (114, 2), (115, 3), (399, 7), (400, 8)):
            store = open_store()
            cell = cell_for(store, value_of(long))
            with self.subTest(long):
                self.assertEqual(cell[0], "out" if rests else "in")
                self.assertEqual(len(pages_of(store)), 2 + rests)

    def test_each_value_back(self):
        store = open_store()
        cells = [(value_of(long), cell_for(store, value_of(long))) for long in range(401)]
        for value, cell in cells[::5]:
            with self.subTest(len(value)):
                self.assertEqual(value_at(store, cell), value)
        store.keep()
        for value, cell in cells[::7]:
            self.assertEqual(value_at(Store(store.disk), cell), value)

    def test_a_reader_that_is_no_store(self):
        store = open_store()
        cell = cell_for(store, value_of(150))
        reader = OnlyReads(pages_of(store))
        self.assertEqual(value_at(reader, cell), value_of(150))
        self.assertEqual(sorted(set(reader.asked)), [2, 3, 4])
        self.assertEqual(value_at(reader, ("in", "text")), "text")

    def test_the_rests_are_asked_for(self):
        store = open_store()
        store.asked()
        cell = cell_for(store, value_of(150))
        self.assertEqual(store.asked(), [0, 2, 3, 4])
        value_at(store, cell)
        self.assertEqual(store.asked(), [2, 3, 4])
        drop_cell(store, cell)
        self.assertEqual(store.asked(), [0, 2, 3, 4])
        cell = cell_for(store, "short")
        value_at(store, cell)
        drop_cell(store, cell)
        self.assertEqual(store.asked(), [])


class TestFreeOnes(unittest.TestCase):
    def test_dropped_rests_are_free(self):
        store = open_store()
        first, second = cell_for(store, value_of(100)), cell_for(store, value_of(200))
        self.assertEqual(free_row(store), [])
        self.assertIsNone(drop_cell(store, first))
        self.assertEqual(sorted(free_row(store)), [2, 3])
        self.assertEqual(value_at(store, second), value_of(200))
        self.assertIsNone(drop_cell(store, second))
        self.assertEqual(sorted(free_row(store)), [2, 3, 4, 5, 6, 7])
        self.assertEqual(sorted(free_row(store)[:4]), [4, 5, 6, 7])

    def test_no_page_more_as_long_as_there_are_free_ones(self):
        store = open_store()
        kept = cell_for(store, value_of(120))
        drop_cell(store, cell_for(store, value_of(400)))
        many = len(pages_of(store))
        for long in (400, 9, 300, 57, 58, 400):
            free = free_row(store)
            cell = cell_for(store, value_of(long))
            used = -(-long // 57)
            with self.subTest(long):
                self.assertEqual(free_row(store), free[used:])
                self.assertEqual(cell[2], free[0])
                self.assertEqual(value_at(store, cell), value_of(long))
                self.assertEqual(len(pages_of(store)), many)
            drop_cell(store, cell)
        self.assertEqual(value_at(store, kept), value_of(120))

    def test_free_ones_first_then_new_pages(self):
        store = open_store()
        drop_cell(store, cell_for(store, value_of(100)))
        free = free_row(store)
        cell = cell_for(store, value_of(200))
        self.assertEqual(free_row(store), [])
        numbers = free + [4, 5]
        for number, after, each in zip(numbers, numbers[1:] + [0], parts(value_of(200), 57)):
            self.assertEqual(store.page(number), ("rest", each, after))
        self.assertEqual(value_at(store, cell), value_of(200))

    def test_undo(self):
        store = open_store()
        cell = cell_for(store, value_of(200))
        store.keep()
        before = pages_of(store)
        store.begin()
        drop_cell(store, cell)
        cell_for(store, value_of(400)[::-1])
        store.undo()
        self.assertEqual(pages_of(store), before)
        self.assertEqual(value_at(store, cell), value_of(200))


class TestRefusals(unittest.TestCase):
    def test_what_is_no_value(self):
        for inside in (False, True):
            store = Store(Disk(64))
            if inside:
                store.begin()
            before = pages_of(store)
            store.asked()
            for at, thing in enumerate(["a" * 401, "a\n", "a" * 100 + "\t"] + things_but(str)):
                with self.subTest(inside=inside, at=at):
                    assert_refused(self, "BadValue", cell_for, store, thing)
                    self.assertEqual(store.asked(), [])
            self.assertEqual(pages_of(store), before)

    def test_outside_of_a_bundle(self):
        store = open_store()
        cell = cell_for(store, value_of(100))
        store.keep()
        before = pages_of(store)
        assert_refused(self, "NoBundle", cell_for, store, value_of(9))
        assert_refused(self, "NoBundle", drop_cell, store, cell)
        self.assertEqual(pages_of(store), before)
        self.assertEqual(value_at(store, cell), value_of(100))


if __name__ == "__main__":
    unittest.main()
