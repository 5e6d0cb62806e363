import random
import unittest

from leafhouse.disk import Disk
from leafhouse.store import Store
from leafhouse.tree import cell_of, next_key, put_cell, take_cell
from leafhouse.values import cell_for, value_at
from tests.helper import (
    assert_asked_as_told,
    assert_refused,
    free_row,
    leaf_by_hand,
    pages_of,
    plant,
    put_in,
    things_but,
    walked,
)

NO_KEYS = ["", "a" * 13, "a\t", "\n", "a" * 12 + "\n"]
# For each size how many kids and rows a page has so that it is just a quarter full or somewhat more.
SHAPES = ((64, 2, 1, 0), (64, 3, 2, 8), (64, 4, 3, 0), (72, 2, 2, 1), (100, 3, 2, 12), (200, 4, 3, 1), (200, 5, 4, 25))


def key_at(number):
    return str(number).rjust(12, "0")


def tree_by_hand(depth, kids, rows, long, start=0):
    """A tree whose keys are the tens from start on; its forks have kids' first keys, and others that are none."""
    if depth == 1:
        numbers = range(start, start + rows * 10, 10)
        return leaf_by_hand(*[(key_at(number), (str(number) * long)[:long]) for number in numbers])
    step = rows * 10 * kids ** (depth - 2)
    starts = range(start, start + step * kids, step)
    keys = [key_at(each - 5 if turn % 2 else each) for turn, each in enumerate(starts)]
    return (tuple(keys[1:]), [tree_by_hand(depth - 1, kids, rows, long, each) for each in starts])


def hand_trees(deepest=4):
    """Stores with trees made by hand, and the keys of each."""
    for size, kids, rows, long in SHAPES:
        for depth in range(1, deepest + 1):
            if rows * kids ** (depth - 1) < 200:
                store = Store(Disk(size))
                plant(store, tree_by_hand(depth, kids, rows, long), depth)
                yield store, [key_at(10 * turn) for turn in range(rows * kids ** (depth - 1))], long


def all_places(keys):
    """Keys that are there and those between, ahead and behind."""
    others = [key_at(int(key) + more) for key in keys for more in (-5, 1, 9)]
    return keys + others + [" ", "0", "00000000000", "00000000001", key_at(999), "1", "~", "~" * 12]


class OnlyReads:
    def __init__(self, pages):
        self.pages = pages

    def page(self, number):
        return self.pages[number]

    def head(self):
        return self.pages[0]


class TestAsking(unittest.TestCase):
    def test_the_trees_by_hand_are_sound(self):
        depths = []
        for store, keys, long in hand_trees():
            walk = walked(self, store)
            self.assertEqual(list(walk.values), keys)
            self.assertEqual(len(free_row(store)), walk.depth + 1)
            depths.append(walk.depth)
        self.assertEqual(sorted(set(depths)), [1, 2, 3, 4])

    def test_cell_of(self):
        for store, keys, long in hand_trees():
            before = pages_of(store)
            reader = OnlyReads(before)
            for key in all_places(keys):
                cell = ("in", (str(int(key)) * long)[:long]) if key in keys else None
                with self.subTest(size=store.disk.size, many=len(keys), key=key):
                    self.assertEqual(cell_of(store, key), cell)
                    self.assertEqual(cell_of(reader, key), cell)
            self.assertEqual(pages_of(store), before)
            self.assertFalse(store.is_open())

    def test_next_key(self):
        for store, keys, long in hand_trees():
            before = pages_of(store)
            for reader in (store, OnlyReads(before)):
                self.assertEqual(next_key(reader, None), keys[0])
                self.assertEqual(next_key(reader, None, False), keys[0])
                self.assertEqual(next_key(reader, None, True), keys[-1])
                self.assertEqual(next_key(reader, None, back=True), keys[-1])
                for key in all_places(keys):
                    forth = [each for each in keys if each > key] + [None]
                    back = [None] + [each for each in keys if each < key]
                    with self.subTest(size=store.disk.size, many=len(keys), key=key):
                        self.assertEqual(next_key(reader, key), forth[0])
                        self.assertEqual(next_key(reader, key, back=False), forth[0])
                        self.assertEqual(next_key(reader, key, True), back[-1])
            self.assertEqual(pages_of(store), before)

    def test_an_empty_tree(self):
        store = Store(Disk(64))
        self.assertIsNone(cell_of(store, "a"))
        for key in (None, "a", "~" * 12):
            self.assertIsNone(next_key(store, key))
            self.assertIsNone(next_key(store, key, True))
        store.begin()
        self.assertIsNone(take_cell(store, "a"))
        self.assertEqual(pages_of(store), [("head", 1, 1, 0, 0), ("leaf", ())])

    def test_the_head_and_one_page_on_each_level_are_asked_for(self):
        for store, keys, long in hand_trees():
            levels = walked(self, store).levels
            for key in all_places(keys):
                store.asked()
                cell_of(store, key)
                asked = store.asked()
                with self.subTest(size=store.disk.size, many=len(keys), key=key):
                    self.assertEqual(asked[0], 0)
                    self.assertEqual(sorted([levels[each] for each in asked[1:]]), list(range(1, store.head()[2] + 1)))

    def test_of_a_value_its_rests_alone(self):
        store = Store(Disk(64))
        store.begin()
        for turn in range(20):
            put_cell(store, key_at(turn), cell_for(store, "v" * (turn * 20)))
        for turn in range(20):
            cell = cell_of(store, key_at(turn))
            store.asked()
            self.assertEqual(value_at(store, cell), "v" * (turn * 20))
            asked = store.asked()
            self.assertEqual(len(asked), -(-turn * 20 // 57))
            self.assertEqual({store.page(each)[0] for each in asked} - {"rest"}, set())


class TestRefusals(unittest.TestCase):
    def test_what_is_no_key(self):
        for inside in (False, True):
            store = Store(Disk(64))
            plant(store, tree_by_hand(3, 2, 1, 0), 2)
            if inside:
                store.begin()
            before = pages_of(store)
            store.asked()
            for at, thing in enumerate(NO_KEYS + things_but(str)):
                with self.subTest(inside=inside, at=at):
                    assert_refused(self, "BadKey", cell_of, store, thing)
                    assert_refused(self, "BadKey", take_cell, store, thing)
                    assert_refused(self, "BadKey", put_cell, store, thing, ("in", "text"))
                    if thing is not None:
                        assert_refused(self, "BadKey", next_key, store, thing)
                        assert_refused(self, "BadKey", next_key, store, thing, True)
                    self.assertEqual(store.asked(), [])
            self.assertEqual(pages_of(store), before)
            self.assertIs(store.is_open(), inside)


class Deeds(unittest.TestCase):
    """Deeds upon a store, each of them looked at."""

    def plant(self, size, tree, free=3):
        self.start(size)
        plant(self.store, tree, free)
        self.walk = walked(self, self.store)
        self.cells = dict([(key, cell_of(self.store, key)) for key in self.walk.values])
        self.store.begin()

    def start(self, size):
        self.store = Store(Disk(size), 40)
        self.walk = walked(self, self.store)
        self.cells = {}

    def put(self, key, cell):
        had = self.looked_at(put_cell, key, cell)
        self.assertEqual(had, self.cells.get(key))
        self.cells[key] = cell
        self.assertEqual(self.shown(), self.cells)

    def take(self, key):
        had = self.looked_at(take_cell, key)
        self.assertEqual(had, self.cells.pop(key, None))
        self.assertEqual(self.shown(), self.cells)

    def shown(self):
        return dict([(key, cell_of(self.store, key)) for key in self.walk.values])

    def looked_at(self, do, *given):
        """What a deed tells; what it leaves behind, asks for, takes and lets go is looked at."""
        changes = []

        def told(number, page):
            changes.append((number, None if page is None else page[0]))

        before = self.walk
        self.store.watch(told)
        self.store.asked()
        had = do(self.store, *given)
        asked = self.store.asked()
        self.store.unwatch(told)
        self.walk = walked(self, self.store)
        assert_asked_as_told(self, before, self.walk, asked)
        self.look_at_changes(changes, asked)
        # Free ones are taken from the first on, new ones let go ahead of them.
        left = [each for each in before.free if each in self.walk.free]
        self.assertEqual(left, before.free[len(before.free) - len(left) :])
        self.assertEqual(left, self.walk.free[len(self.walk.free) - len(left) :])
        return had

    def look_at_changes(self, changes, asked):
        """No page is taken and let go again, nor let go and taken again; only what is asked for is changed."""
        for number in sorted({each for each, kind in changes} - {0}):
            self.assertIn(number, asked)
            kinds = [kind for each, kind in changes if each == number]
            self.assertNotIn("free", kinds[1:])
            self.assertNotIn(None, kinds[1:])
            if kinds[0] in ("free", None):
                self.assertNotIn(number, self.walk.free)


class TestDeeds(Deeds):
    def test_each_key_put_anew_longer_shorter_and_the_same(self):
        for size, kids, rows, long in SHAPES:
            depth = 3 if kids < 4 else 2
            self.plant(size, tree_by_hand(depth, kids, rows, long))
            for key in list(self.cells)[::2]:
                for cell in (("in", "v" * (size // 8)), ("in", ""), ("out", 400, 4000), ("in", "x"), ("in", "x")):
                    if cell[0] == "out":
                        number = self.store.fresh()
                        self.store.put(number, ("rest", "r" * (size // 8 + 1), 0))
                        cell = ("out", size // 8 + 1, number)
                        self.walk = walked_with_rest(self, self.store, number)
                    with self.subTest(size=size, key=key, cell=cell):
                        self.put_over(key, cell)

    def put_over(self, key, cell):
        """As put; the rest of the cell that was there is let go behind it."""
        had = self.cells.get(key)
        pages = pages_of(self.store)
        if had is not None and had[0] == "out":
            self.assertEqual(put_cell(self.store, key, cell), had)
            self.store.let_go(had[2])
            self.cells[key] = cell
            self.walk = walked(self, self.store)
            self.assertEqual(self.shown(), self.cells)
        else:
            self.put(key, cell)
        if had == cell:
            self.assertEqual(pages_of(self.store), pages)

    def test_a_key_that_is_not_there_is_not_taken(self):
        for size, kids, rows, long in SHAPES:
            self.plant(size, tree_by_hand(2, kids, rows, long))
            before = pages_of(self.store)
            for key in all_places(list(self.cells)):
                if key not in self.cells:
                    self.take(key)
            self.assertEqual(pages_of(self.store), before)

    def test_keys_put_between_and_taken_again(self):
        for size, kids, rows, long in SHAPES:
            self.plant(size, tree_by_hand(2, kids, rows, long))
            first = list(self.cells)
            others = [key for key in all_places(first) if key not in first][:: 3 if size < 200 else 7]
            for key in others:
                self.put(key, ("in", key[:long]))
            for key in others[::2] + first + others[1::2]:
                self.take(key)
            with self.subTest(size=size):
                self.assertEqual((self.walk.depth, self.walk.head[3], self.walk.values), (1, 0, {}))

    def test_each_key_of_trees_by_hand_taken(self):
        chance = random.Random(5)
        for size, kids, rows, long in SHAPES:
            depth = 4 if kids < 4 else 3
            for order in ("rising", "falling", "any"):
                self.plant(size, tree_by_hand(depth, kids, rows, long))
                keys = sorted(self.cells, reverse=order == "falling")
                if order == "any":
                    chance.shuffle(keys)
                elif len(keys) > 40:
                    continue
                for key in keys:
                    self.take(key)
                with self.subTest(size=size, order=order):
                    self.assertEqual((self.walk.depth, self.walk.head[3]), (1, 0))
                    self.assertEqual(self.store.page(self.walk.head[1]), ("leaf", ()))

    def test_a_key_that_the_fork_has_too(self):
        leaves = [leaf_by_hand((key, "12345678"), (key + "x", "12")) for key in ("a", "b", "c")]
        self.plant(64, (("b", "c"), leaves))
        self.take("b")
        self.assertIsNone(cell_of(self.store, "b"))
        self.assertEqual(next_key(self.store, "a"), "ax")
        self.assertEqual(next_key(self.store, "ax"), "bx")
        self.assertEqual(next_key(self.store, "bx", True), "ax")
        self.put("b", ("in", "back"))
        self.assertEqual(cell_of(self.store, "b"), ("in", "back"))

    def test_undo(self):
        self.start(64)
        for turn in range(30):
            self.store.begin()
            self.put(key_at(turn * 7 % 30), ("in", "v" * (turn % 9)))
            self.store.keep()
        for turns in (range(0, 30, 3), range(30)):
            before, free, asked = pages_of(self.store), free_row(self.store), self.store.head()
            cells = dict(self.cells)
            self.store.begin()
            for turn in turns:
                self.take(key_at(turn))
                self.put(key_at(turn + 100), ("in", "w" * (turn % 5)))
            self.store.undo()
            self.walk = walked(self, self.store)
            self.cells = cells
            self.assertEqual(pages_of(self.store), before)
            self.assertEqual((free_row(self.store), self.store.head()), (free, asked))
            self.assertEqual(self.shown(), self.cells)


def walked_with_rest(case, store, number):
    """A walk ahead of the putting in of a cell whose rest is there: that one counts as the cell's."""
    head = store.head()
    store.let_go(number)
    walk = walked(case, store)
    store.put(number, ("rest", "r" * (store.disk.size // 8 + 1), 0))
    store.put(0, head)
    walk.free.remove(number)
    walk.rests.append(number)
    return walk


class TestGrowth(Deeds):
    def grow_and_shrink(self, size, keys, cell, deep):
        """Each key is put and taken again; tells all depths on the way."""
        self.start(size)
        self.store.begin()
        depths = []
        for key in keys:
            self.put(key, cell(key))
            depths.append(self.walk.depth)
        self.assertGreaterEqual(max(depths), deep)
        self.assertEqual(list(self.walk.values), sorted(keys))
        for key in sorted(keys, key=lambda each: (each[::-1], each)):
            self.take(key)
            depths.append(self.walk.depth)
        self.assertEqual(self.walk.depth, 1)
        self.assertEqual(self.store.page(self.walk.head[1]), ("leaf", ()))
        self.assertEqual({abs(one - other) for one, other in zip(depths, depths[1:])}, {0, 1})

    def test_keys_of_twelve_in_pages_of_64(self):
        def cell(key):
            return ("in", "v" * (int(key) % 9))

        rising = [key_at(turn) for turn in range(40)]
        mixed = [key_at(turn * 17 % 41) for turn in range(41)]
        for keys in (rising, rising[::-1], mixed):
            self.grow_and_shrink(64, keys, cell, 4)

    def test_keys_of_other_lengths(self):
        chance = random.Random(6)
        for size, deep in ((64, 3), (65, 3), (100, 2), (200, 2)):
            keys = sorted({"".join(chance.choices("ab ~", k=chance.randrange(1, 13))) for turn in range(60)})
            chance.shuffle(keys)
            self.grow_and_shrink(size, keys, lambda key: ("in", "v" * (len(key) % (size // 8))), deep)

    def test_deeds_of_all_sorts(self):
        chance = random.Random(7)
        for size in (64, 66, 71, 120):
            self.start(size)
            self.store.begin()
            for turn in range(160):
                key = "".join(chance.choices("abc", k=chance.choice([1, 2, 11, 12, 12])))
                if chance.randrange(160) > turn:
                    self.put(key, ("in", "v" * chance.choice([0, 1, size // 8])))
                else:
                    self.take(chance.choice(sorted(self.cells) + [key]))


class TestByHand(Deeds):
    def test_the_first_parting(self):
        self.start(64)
        self.store.begin()
        for key in ("b", "a"):
            self.put(key * 12, ("in", "12345678"))
        self.assertEqual(self.walk.depth, 1)
        self.put("c" * 12, ("in", "12345678"))
        self.assertEqual((self.walk.depth, self.walk.head[3]), (2, 3))
        self.assertEqual(len(pages_of(self.store)), 4)
        self.take("b" * 12)
        self.assertEqual((self.walk.depth, len(self.walk.free)), (2, 0))
        self.take("c" * 12)
        self.assertEqual((self.walk.depth, len(self.walk.free)), (1, 2))

    def test_a_leaf_borrows_and_the_top_has_no_room_for_the_longer_key(self):
        # The top has just the room: 1 + 9 + 13 * 3 + 2 * 5 = 59; the key of eight signs becomes one of twelve.
        full = leaf_by_hand(("b10000000000", "12345678"), ("b20000000000", "12345678"), ("b30000000", ""))
        others = [leaf_by_hand((sign + "5", "12345678")) for sign in "cde"]
        tops = ("b0000000", "c00000000000", "d00000000000", "e00000000000")
        self.plant(64, (tops, [leaf_by_hand(("a1", ""), ("a2", "12345678")), full] + others))
        self.assertEqual(self.walk.depth, 2)
        free = list(self.walk.free)
        self.take("a2")
        self.assertEqual(self.walk.depth, 3)
        self.assertEqual(self.walk.free, free[2:])
        self.store.undo()
        self.assertEqual(cell_of(self.store, "a2"), ("in", "12345678"))
        self.assertEqual(self.store.head()[2], 2)

    def test_the_same_with_the_neighbour_ahead(self):
        # The kid behind all is too short, so that it borrows from the one ahead of it.
        full = leaf_by_hand(("d10000000", ""), ("d20000000000", "12345678"), ("d30000000000", "12345678"))
        others = [leaf_by_hand((sign + "5", "12345678")) for sign in "abc"]
        tops = ("b00000000000", "c00000000000", "d00000000000", "e0000000")
        self.plant(64, (tops, others + [full, leaf_by_hand(("e1", ""), ("e2", "12345678"))]))
        self.take("e2")
        self.assertEqual(self.walk.depth, 3)
        self.assertIn("d30000000000", [key for page in pages_of(self.store) if page[0] == "fork" for key in page[1]])

    def test_a_fork_beneath_the_top_has_no_room_for_the_longer_key(self):
        full = leaf_by_hand(("b10000000000", "12345678"), ("b20000000000", "12345678"), ("b30000000", ""))
        others = [leaf_by_hand((sign + "5", "12345678")) for sign in "cde"]
        inner = ("b0000000", "c00000000000", "d00000000000", "e00000000000")
        fork = (inner, [leaf_by_hand(("a1", ""), ("a2", "12345678")), full] + others)
        other = (("g00000000000",), [leaf_by_hand((sign + "5", "12345678")) for sign in "fg"])
        self.plant(64, (("f",), [fork, other]))
        self.put("a2", ("in", ""))
        self.assertEqual(self.walk.depth, 3)
        self.assertEqual(len(self.store.page(self.walk.head[1])[2]), 3)

    def test_leaves_are_joined_a_fork_borrows_and_the_top_is_parted(self):
        def two_leaves(sign):
            return ((sign + "50000000000",), [leaf_by_hand((sign + each, "12345678")) for each in ("1", "55")])

        short = (("a50000000000",), [leaf_by_hand(("a1", ""), ("a2", "12345678")), leaf_by_hand(("a5x", "12345678"))])
        inner = ("b20000000000", "b30000000000", "b40000000000", "b5")
        full = (inner, [leaf_by_hand(("b" + each, "12345678")) for each in ("1", "25", "35", "45", "55")])
        tops = ("b0000000", "c00000000000", "d00000000000", "e00000000000")
        for free in (0, 1, 2, 5):
            self.plant(64, (tops, [short, full] + [two_leaves(sign) for sign in "cde"]), free)
            before = self.walk
            self.take("a2")
            self.assertEqual((before.depth, self.walk.depth), (3, 4))
            gone = [each for each in before.levels if each in self.walk.free]
            self.assertEqual(len(gone), 1)
            self.assertEqual(self.walk.free, gone + before.free[2:])

    def test_a_shorter_key_leaves_a_fork_too_short(self):
        # The key of twelve signs becomes one of two, and the fork has less than a quarter then.
        full = leaf_by_hand(*[(f"b{each}", "1234567") for each in "1234"])
        leaves = [leaf_by_hand(("a1", ""), ("a2", "12345678")), full]
        other = (("d00000000000",), [leaf_by_hand(("c5", "12345678")), leaf_by_hand(("d5", "12345678"))])
        self.plant(64, (("c",), [(("b00000000000",), leaves), other]))
        self.assertEqual(self.walk.depth, 3)
        self.take("a2")
        self.assertEqual(self.walk.depth, 2)

    def test_put_in_leaves_free_ones_and_new_pages(self):
        for free in range(3):
            store = Store(Disk(64))
            plant(store, leaf_by_hand(*[(key, "12345678") for key in ("a" * 12, "b" * 12)]), free)
            row = free_row(store)
            store.begin()
            store.asked()
            self.assertIsNone(put_cell(store, "c" * 12, ("in", "12345678")))
            new = (row + list(range(len(row) + 2, 9)))[:2]
            self.assertEqual(store.asked(), sorted([0, 2 + free] + new))
            self.assertEqual(free_row(store), row[2:])

    def test_what_is_put_in_tells_its_shape(self):
        store = Store(Disk(64))
        store.begin()
        self.assertEqual(put_in(store, tree_by_hand(3, 2, 1, 0)), (2, 3, 4))


if __name__ == "__main__":
    unittest.main()
