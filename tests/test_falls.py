import copy
import unittest

from leafhouse.disk import Disk
from leafhouse.errors import PowerGone
from leafhouse.pages import page_text
from leafhouse.store import Store
from tests.helper import (
    assert_refused,
    last_row_by_hand,
    pages_of,
    pages_on,
    row_by_hand,
    text_by_hand,
)

EMPTY = ("leaf", ())
FIRST = [("head", 1, 1, 0, 0), EMPTY]
FIRST_ROWS = [
    row_by_hand(0, text_by_hand("h", "01010000")),
    row_by_hand(1, text_by_hand("l", "0")),
    last_row_by_hand(2),
]


def page(word):
    return ("rest", f"page {word}", 0)


def text(word):
    return page_text(page(word), 64)


def disk_with(pages=(), rows=()):
    disk = Disk(64)
    for number, each in enumerate(pages):
        disk.write(number, page_text(each, 64))
    for row in rows:
        disk.add(row)
    return disk


def bundle(**pages):
    """The rows of a bundle, made by hand: p3="word" at 3."""
    numbers = sorted([int(name[1:]) for name in pages])
    return [row_by_hand(number, text(pages[f"p{number}"])) for number in numbers] + [last_row_by_hand(len(numbers))]


class ComingUp(unittest.TestCase):
    def assert_up(self, disk, pages):
        """A store upon a disk tells pages; the disk has just their texts then, and another one writes nothing."""
        disk.up()
        store = Store(disk)
        self.assert_at_rest(store, pages)
        writes = disk.writes()
        self.assert_at_rest(Store(disk, 2), pages)
        self.assertEqual(disk.writes(), writes)

    def assert_at_rest(self, store, pages):
        self.assertEqual(pages_of(store), pages)
        self.assertIs(store.is_open(), False)
        self.assertEqual(store.disk.pages(), [page_text(each, 64) for each in pages])
        self.assertEqual(store.disk.rows(), [])

    def assert_up_through_falls(self, disk, pages):
        """As assert_up, with a fall at each of the writes of the coming up, and once more."""
        disk.up()
        for turn in self.turns(disk):
            for cut in (0, 1, 40, 500):
                fallen = copy.deepcopy(disk)
                fallen.fall(turn, cut)
                assert_refused(self, "PowerGone", Store, fallen)
                self.assert_up(copy.deepcopy(fallen), pages)
                fallen.up()
                for again in self.turns(fallen):
                    twice = copy.deepcopy(fallen)
                    twice.fall(again, cut // 2)
                    assert_refused(self, "PowerGone", Store, twice)
                    self.assert_up(twice, pages)
        self.assert_up(disk, pages)

    def turns(self, disk):
        """The writes of a coming up, from 1 on."""
        tried = copy.deepcopy(disk)
        Store(tried)
        return range(1, tried.writes() - disk.writes() + 1)


class TestComingUp(ComingUp):
    def test_no_page_and_no_row(self):
        self.assert_up_through_falls(Disk(64), FIRST)

    def test_a_disk_at_rest(self):
        disk = disk_with(FIRST + [page("two")])
        writes = disk.writes()
        self.assert_up(disk, FIRST + [page("two")])
        self.assertEqual(disk.writes(), writes)

    def test_a_first_bundle_cut_off_at_any_sign(self):
        for at, row in enumerate(FIRST_ROWS):
            for cut in range(len(row)):
                disk = disk_with([], FIRST_ROWS[:at] + [row[:cut]])
                writes = disk.writes()
                with self.subTest(at=at, cut=cut):
                    self.assert_up(disk, FIRST)
                    # A clearing first, then the beginning of a table: three rows, two pages, a clearing.
                    self.assertEqual(disk.writes(), writes + 7)
            self.assert_up_through_falls(disk_with([], FIRST_ROWS[:at] + [row[:3]]), FIRST)

    def test_a_first_bundle_whose_rows_end_between_two(self):
        for many in range(4):
            with self.subTest(many):
                self.assert_up(disk_with([], FIRST_ROWS[:many]), FIRST)

    def test_a_first_bundle_that_is_whole_is_done_again(self):
        for rows in (FIRST_ROWS, FIRST_ROWS + bundle(p1="one", p2="two")):
            disk = disk_with([], rows)
            pages = FIRST if len(rows) == 3 else [FIRST[0], page("one"), page("two")]
            self.assert_up_through_falls(disk, pages)

    def test_bundles_are_done_again_in_order(self):
        rows = bundle(p1="one", p2="two") + bundle(p2="newer", p3="three") + bundle(p1="last")
        disk = disk_with(FIRST + [page("old")], rows)
        self.assert_up_through_falls(disk, [FIRST[0], page("last"), page("newer"), page("three")])

    def test_a_last_bundle_cut_off_in_each_row_at_any_sign(self):
        last = bundle(p1="last", p2="last", p3="last", p4="last")
        before = FIRST + [page("old")]
        for first in ([], bundle(p1="one", p3="three")):
            pages = before if not first else [FIRST[0], page("one"), page("old"), page("three")]
            for at, row in enumerate(last):
                for cut in range(len(row)):
                    with self.subTest(first=len(first), at=at, cut=cut):
                        self.assert_up(disk_with(before, first + last[:at] + [row[:cut]]), pages)
                self.assert_up_through_falls(disk_with(before, first + last[:at] + [row[:4]]), pages)
            pages = [FIRST[0]] + [page("last")] * 4
            self.assert_up(disk_with(before, first + last), pages)

    def test_where_only_a_cut_row_stands_just_that_is_cleared(self):
        disk = disk_with(FIRST, [bundle(p1="one")[0][:9]])
        writes = disk.writes()
        self.assert_up(disk, FIRST)
        self.assertEqual(disk.writes(), writes + 1)

    def test_other_sizes(self):
        for size in (65, 200):
            disk = Disk(size)
            store = Store(disk)
            store.begin()
            store.put(1, page("x" * 40))
            store.put(2, page("two"))
            store.keep()
            store = Store(disk)
            self.assertEqual(pages_on(disk), [FIRST[0], page("x" * 40), page("two")])
            self.assertEqual((pages_of(store), disk.rows()), (pages_on(disk), []))

    def test_pages_written_in_part_amid_a_rest(self):
        rows = bundle(p1="one", p2="two", p3="three", p4="four")
        pages = [FIRST[0]] + [page(word) for word in ("one", "two", "three", "four")]
        whole = disk_with(FIRST + [page("old")], rows)
        for turn in range(1, 6):
            for cut in list(range(0, 64, 7)) + [63, 64, 65]:
                disk = copy.deepcopy(whole)
                disk.fall(turn, cut)
                assert_refused(self, "PowerGone", Store, disk)
                with self.subTest(turn=turn, cut=cut):
                    self.assert_up(disk, pages)

    def test_what_comes_up_goes_on(self):
        disk = disk_with(FIRST + [page("old")], bundle(p2="two", p3="three") + ["cut"])
        store = Store(disk)
        store.begin()
        self.assertEqual(store.fresh(), 4)
        store.let_go(2)
        store.keep()
        self.assertEqual(len(disk.rows()), 4)
        pages = [("head", 1, 1, 0, 2), EMPTY, ("free", 0), page("three"), EMPTY]
        self.assertEqual(pages_of(store), pages)
        self.assert_up(disk, pages)


class Run:
    """A run of bundles and rests upon a disk, up to a fall."""

    def __init__(self, disk, most):
        self.disk = disk
        self.most = most
        # The pages behind each bundle that was kept; how many were; and whether a keep was under way at the fall.
        self.stood = []
        self.keeping = False
        self.fell = False

    def go(self):
        try:
            self.deeds()
        except PowerGone:
            self.fell = True
        return self

    def deeds(self):
        self.keeping = True
        store = Store(self.disk, self.most)
        self.note(store)
        for turn in range(9):
            self.bundle(store, turn)
            if turn % 4 == 1:
                store.rest()
        self.long_bundle(store)
        self.bundle(store, 3)
        store = Store(self.disk, self.most)
        self.bundle(store, 4)
        store.rest()

    def note(self, store):
        self.keeping = False
        self.stood.append(pages_of(store))

    def bundle(self, store, turn):
        store.begin()
        used = [number for number, each in enumerate(pages_of(store)) if each[0] in ("leaf", "rest")]
        store.put(used[turn % len(used)], page(f"turn {turn}"))
        if turn % 3 == 0:
            store.put(store.fresh(), page(f"more {turn}"))
            store.put(store.fresh(), page(f"most {turn}"))
        if turn % 3 == 2:
            store.let_go(used[0])
        store.put_head(1, 1, turn)
        if turn % 5 == 4:
            store.undo()
            return
        self.keeping = True
        store.keep()
        self.note(store)

    def long_bundle(self, store):
        store.begin()
        for turn in range(24):
            store.put(store.fresh(), page(f"long {turn}"))
        self.keeping = True
        store.keep()
        self.note(store)


class TestFalls(ComingUp):
    def test_a_fall_at_every_write(self):
        for most, cuts in ((2, (0, 3, 50, 500)), (8, (30,))):
            whole = Run(Disk(64), most).go()
            self.assertFalse(whole.fell)
            writes = whole.disk.writes()
            self.assertGreater(writes, 100)
            for turn in range(1, writes + 1):
                for cut in cuts:
                    with self.subTest(most=most, turn=turn, cut=cut):
                        self.one_fall(whole, turn, cut)

    def one_fall(self, whole, turn, cut):
        disk = Disk(64)
        disk.fall(turn, cut)
        run = Run(disk, whole.most).go()
        self.assertTrue(run.fell)
        self.assertEqual(run.stood, whole.stood[: len(run.stood)])
        disk.up()
        pages = pages_of(Store(disk))
        if not run.stood:
            self.assertEqual(pages, FIRST)
        elif pages != run.stood[-1]:
            self.assertTrue(run.keeping)
            self.assertEqual(pages, whole.stood[len(run.stood)])
        self.assert_up(disk, pages)

    def test_a_bundle_is_kept_as_its_last_row_stands(self):
        for cut, kept in ((0, False), (4, False), (5, True), (6, True)):
            store = Store(Disk(64))
            store.begin()
            store.put(1, page("new"))
            store.disk.fall(2, cut)
            assert_refused(self, "PowerGone", store.keep)
            with self.subTest(cut):
                self.assert_up(store.disk, [FIRST[0], page("new") if kept else EMPTY])

    def test_a_fall_amid_the_rest_that_is_done_by_itself(self):
        # 41 rows, then 40 pages and a clearing.
        for turn in range(42, 83):
            store = Store(Disk(64))
            store.begin()
            for number in range(1, 41):
                store.put(number, page("new"))
            store.disk.fall(turn, 20)
            assert_refused(self, "PowerGone", store.keep)
            with self.subTest(turn):
                self.assert_up(store.disk, [FIRST[0]] + [page("new")] * 40)


if __name__ == "__main__":
    unittest.main()
