import random
import unittest

from leafhouse.disk import Disk
from leafhouse.pages import page_text
from leafhouse.store import Store
from tests.helper import (
    assert_refused,
    free_row,
    last_row_by_hand,
    pages_of,
    pages_on,
    row_by_hand,
    text_by_hand,
    things_but,
)

EMPTY = ("leaf", ())
FIRST = [("head", 1, 1, 0, 0), EMPTY]


def page(word):
    return ("rest", f"page {word}", 0)


def told(disk):
    return (disk.pages(), disk.rows(), disk.writes())


def new_store(many=2, most=8, size=64):
    """A store at rest with so many pages, those behind the first two told by their numbers."""
    store = Store(Disk(size), most)
    store.begin()
    for number in range(2, many):
        store.put(number, page(number))
    store.keep()
    store.rest()
    store.asked()
    return store


def kept(store, **pages):
    """Keep a bundle in which pages are put: p3=.. at 3."""
    store.begin()
    for name, each in pages.items():
        store.put(int(name[1:]), each)
    store.keep()


class TestBeginning(unittest.TestCase):
    def test_a_new_disk(self):
        for size in (64, 65, 200):
            disk = Disk(size)
            store = Store(disk)
            self.assertIs(store.disk, disk)
            head, leaf = text_by_hand("h", "01010000", size), text_by_hand("l", "0", size)
            # Two rows and the last one, two pages, a clearing.
            self.assertEqual(told(disk), ([head, leaf], [], 6))
            self.assertEqual(pages_of(store), FIRST)
            self.assertEqual(store.head(), FIRST[0])
            self.assertIs(store.is_open(), False)

    def test_the_size_of_the_shelf(self):
        for at, most in enumerate([1, 41, 0, -8, 10**5000] + things_but(int)):
            disk = Disk(64)
            with self.subTest(at):
                assert_refused(self, "BadSize", Store, disk, most)
                self.assertEqual(told(disk), ([], [], 0))
                disk.add("a row")
                assert_refused(self, "BadSize", Store, disk, most)
                self.assertEqual(told(disk), ([], ["a row"], 1))
        for most in (2, 3, 40):
            self.assertEqual(pages_of(Store(Disk(64), most)), FIRST)

    def test_the_size_ahead_of_the_power(self):
        disk = Disk(64)
        disk.fall(1, 0)
        assert_refused(self, "BadSize", Store, disk, 1)
        assert_refused(self, "PowerGone", Store, disk)
        assert_refused(self, "BadSize", Store, disk, 41)


class TestBundles(unittest.TestCase):
    def test_open_or_not(self):
        store = new_store()
        for end in (store.keep, store.undo):
            assert_refused(self, "NoBundle", store.keep)
            assert_refused(self, "NoBundle", store.undo)
            self.assertIs(store.is_open(), False)
            self.assertIsNone(store.begin())
            self.assertIs(store.is_open(), True)
            assert_refused(self, "InBundle", store.begin)
            assert_refused(self, "InBundle", store.rest)
            self.assertIs(store.is_open(), True)
            self.assertIsNone(end())
            self.assertIs(store.is_open(), False)
        self.assertIsNone(store.rest())

    def test_a_refused_begin_leaves_the_bundle(self):
        store = new_store()
        store.begin()
        store.put(1, page("new"))
        before = told(store.disk)
        assert_refused(self, "InBundle", store.begin)
        assert_refused(self, "InBundle", store.rest)
        self.assertEqual(told(store.disk), before)
        self.assertEqual(store.page(1), page("new"))
        store.undo()
        self.assertEqual(pages_of(store), FIRST)

    def test_rows_made_by_hand(self):
        store = new_store()
        texts = store.disk.pages()
        store.begin()
        store.put(2, ("rest", "text", 0))
        store.put(1, ("free", 2))
        store.put_head(2, 3, 4)
        store.keep()
        first = [
            row_by_hand(0, text_by_hand("h", "02030400")),
            row_by_hand(1, text_by_hand("e", "02")),
            row_by_hand(2, text_by_hand("r", "00text")),
            last_row_by_hand(3),
        ]
        self.assertEqual(store.disk.rows(), first)
        store.begin()
        store.put(1, ("fork", (), (2,)))
        store.keep()
        second = [row_by_hand(1, text_by_hand("f", "0" + "02")), last_row_by_hand(1)]
        self.assertEqual(store.disk.rows(), first + second)
        self.assertEqual(store.disk.pages(), texts)

    def test_where_no_page_is_another_one_no_row(self):
        store = new_store(4)
        before = told(store.disk)
        store.begin()
        store.keep()
        self.assertEqual(told(store.disk), before)
        store.begin()
        store.put(3, store.page(3))
        store.put(2, page("new"))
        store.put(2, page(2))
        store.put_head(1, 1, 0)
        store.keep()
        store.rest()
        self.assertEqual(told(store.disk), before)

    def test_only_those_that_are_others_than_when_it_began(self):
        store = new_store(4)
        store.begin()
        store.put(3, page("new"))
        store.put(2, page(2))
        store.keep()
        rows = [row_by_hand(3, page_text(page("new"), 64)), last_row_by_hand(1)]
        self.assertEqual(store.disk.rows(), rows)
        # Back to what stands on the disk, but another one than when the bundle began.
        kept(store, p3=page(3), p2=page(2))
        self.assertEqual(store.disk.rows(), rows + [row_by_hand(3, page_text(page(3), 64)), last_row_by_hand(1)])

    def test_a_new_page_let_go_in_its_bundle_has_a_row(self):
        store = new_store()
        store.begin()
        number = store.fresh()
        store.let_go(number)
        store.keep()
        rows = [row_by_hand(0, text_by_hand("h", "01010002")), row_by_hand(2, text_by_hand("e", "00"))]
        self.assertEqual(store.disk.rows(), rows + [last_row_by_hand(2)])

    def test_nothing_is_written_amid_a_bundle(self):
        for most in (2, 8):
            store = new_store(6, most)
            before = told(store.disk)
            store.begin()
            for number in range(1, 30):
                store.put(number, page("new"))
                store.page(number // 2)
            store.let_go(4)
            store.let_go(3)
            store.fresh()
            store.put_head(1, 1, 1)
            self.assertEqual(told(store.disk), before)
            self.assertEqual(store.page(7), page("new"))
            store.keep()
            self.assertEqual(store.disk.pages(), before[0])
            self.assertEqual(store.disk.writes(), before[2] + 31)

    def test_pages_are_told_as_they_were_put(self):
        store = new_store(12, 2)
        store.begin()
        for number in range(1, 12):
            store.put(number, page(f"new {number}"))
        self.assertEqual(pages_of(store)[1:], [page(f"new {number}") for number in range(1, 12)])
        store.keep()
        self.assertEqual(pages_of(store)[1:], [page(f"new {number}") for number in range(1, 12)])
        store.rest()
        self.assertEqual(pages_of(store)[1:], [page(f"new {number}") for number in range(1, 12)])
        self.assertEqual(pages_on(store.disk), pages_of(store))


class TestRests(unittest.TestCase):
    def test_pages_are_written_rising_and_the_journal_is_cleared(self):
        store = new_store(5)
        before = store.disk.pages()
        kept(store, p4=page("new"), p2=page("new"))
        kept(store, p2=page("newer"), p5=page("more"), p6=page("more"))
        store.disk.fall(3, 0)
        writes = store.disk.writes()
        assert_refused(self, "PowerGone", store.rest)
        texts = [page_text(each, 64) for each in (page("newer"), page("new"), page("more"))]
        # The third one is the first new page.
        after = before[:2] + [texts[0], before[3], texts[1], " " * 64]
        self.assertEqual((store.disk.pages(), store.disk.writes()), (after, writes + 3))
        self.assertEqual(len(store.disk.rows()), 3 + 4)

    def test_how_many_writes(self):
        store = new_store(5)
        kept(store, p4=page("new"), p2=page("new"))
        kept(store, p2=page("newer"))
        writes = store.disk.writes()
        self.assertIsNone(store.rest())
        self.assertEqual(store.disk.writes(), writes + 3)
        self.assertEqual(store.disk.rows(), [])
        self.assertEqual(pages_on(store.disk), FIRST + [page("newer"), page(3), page("new")])

    def test_a_page_changed_back_was_changed(self):
        store = new_store(3)
        kept(store, p2=page("new"))
        kept(store, p2=page(2))
        writes = store.disk.writes()
        store.rest()
        self.assertEqual((store.disk.writes(), store.disk.rows()), (writes + 2, []))

    def test_where_nothing_is_changed_and_no_row_stands(self):
        store = new_store(5)
        before = told(store.disk)
        store.rest()
        store.begin()
        store.keep()
        store.rest()
        store.begin()
        store.put(2, page("new"))
        store.fresh()
        store.undo()
        store.rest()
        self.assertEqual(told(store.disk), before)

    def test_one_by_itself_behind_more_than_forty_rows(self):
        store = new_store(3)
        texts = store.disk.pages()
        for turn in range(20):
            kept(store, p2=page(f"turn {turn}"))
        self.assertEqual(len(store.disk.rows()), 40)
        self.assertEqual(store.disk.pages(), texts)
        writes = store.disk.writes()
        kept(store, p2=page("last"))
        self.assertEqual((store.disk.rows(), store.disk.writes()), ([], writes + 4))
        self.assertEqual(pages_on(store.disk), FIRST + [page("last")])

    def test_one_by_itself_behind_a_long_bundle(self):
        for many, rows in ((38, 39), (39, 40), (40, 0), (41, 0), (60, 0)):
            store = new_store()
            store.begin()
            for number in range(1, many + 1):
                store.put(number, page("new"))
            store.keep()
            with self.subTest(many):
                self.assertEqual(len(store.disk.rows()), rows)
                self.assertEqual(len(store.disk.pages()), 2 if rows else many + 1)
                self.assertEqual(pages_of(store), FIRST[:1] + [page("new")] * many)


class TestUndo(unittest.TestCase):
    def test_each_page_is_as_it_was(self):
        for most in (2, 3, 40):
            store = new_store(9, most)
            kept(store, p3=page("kept"), p9=page("kept"))
            before = pages_of(store)
            disk = told(store.disk)
            store.begin()
            for number in range(1, 14):
                store.put(number, page("undone"))
            store.put_head(9, 9, 9)
            store.undo()
            self.assertEqual(pages_of(store), before)
            self.assertEqual(told(store.disk), disk)
            self.assertEqual(assert_refused(self, "BadPage", store.page, 10).number, 10)
            store.rest()
            self.assertEqual(pages_on(store.disk), before)

    def test_free_ones_and_the_number_of_the_next_new_page(self):
        store = new_store(6)
        store.begin()
        store.let_go(4)
        store.let_go(2)
        store.keep()
        before = pages_of(store)
        for turn in range(2):
            store.begin()
            self.assertEqual([store.fresh() for each in range(4)], [2, 4, 6, 7])
            store.let_go(7)
            store.let_go(5)
            store.let_go(4)
            self.assertEqual(free_row(store), [4, 5, 7])
            store.undo()
            self.assertEqual(pages_of(store), before)
            self.assertEqual(free_row(store), [2, 4])
        store.begin()
        store.put(6, page("next"))
        self.assertEqual(assert_refused(self, "BadPage", store.put, 8, page("beyond")).number, 8)
        store.undo()
        store.begin()
        self.assertEqual([store.fresh() for each in range(3)], [2, 4, 6])

    def test_an_undone_bundle_leaves_nothing_to_the_next_one(self):
        store = new_store(3)
        store.begin()
        store.put(1, page("undone"))
        store.undo()
        kept(store, p2=page("kept"))
        self.assertEqual(store.disk.rows(), [row_by_hand(2, page_text(page("kept"), 64)), last_row_by_hand(1)])

    def test_bundles_behind_one_another(self):
        store = new_store(3)
        kept(store, p2=page("one"))
        store.begin()
        store.put(2, page("two"))
        store.undo()
        self.assertEqual(store.page(2), page("one"))
        kept(store, p2=page("three"))
        store.begin()
        store.undo()
        self.assertEqual(store.page(2), page("three"))


class TestFreshAndLetGo(unittest.TestCase):
    def test_the_next_number_where_none_is_free(self):
        store = new_store()
        store.begin()
        for number in (2, 3, 4):
            head = store.head()
            self.assertEqual(store.fresh(), number)
            self.assertEqual(store.page(number), EMPTY)
            self.assertEqual(store.head(), head)
        store.put(5, page(5))
        self.assertEqual(store.fresh(), 6)

    def test_a_page_let_go_is_ahead_of_the_free_ones(self):
        store = new_store(7)
        store.begin()
        self.assertIsNone(store.let_go(3))
        self.assertEqual((store.head(), store.page(3)), (("head", 1, 1, 0, 3), ("free", 0)))
        store.let_go(6)
        self.assertEqual((store.head(), store.page(6)), (("head", 1, 1, 0, 6), ("free", 3)))
        store.let_go(2)
        self.assertEqual(free_row(store), [2, 6, 3])
        store.keep()
        store.rest()
        store = Store(store.disk)
        self.assertEqual(free_row(store), [2, 6, 3])

    def test_the_first_of_the_free_ones_first(self):
        store = new_store(7)
        store.begin()
        for number in (3, 6, 2):
            store.let_go(number)
        store.keep()
        store.begin()
        for number, left in ((2, [6, 3]), (6, [3]), (3, []), (7, [])):
            self.assertEqual(store.fresh(), number)
            self.assertEqual(store.page(number), EMPTY)
            self.assertEqual(free_row(store), left)

    def test_a_new_number_and_free_ones_leave_the_rest_of_the_head(self):
        store = new_store(3)
        store.begin()
        store.put_head(2, 7, 9)
        store.let_go(1)
        self.assertEqual(store.head(), ("head", 2, 7, 9, 1))
        store.fresh()
        self.assertEqual(store.head(), ("head", 2, 7, 9, 0))

    def test_put_head_leaves_free_as_it_is(self):
        store = new_store(4)
        store.begin()
        self.assertIsNone(store.put_head(3, 2, 1))
        self.assertEqual(store.head(), ("head", 3, 2, 1, 0))
        store.let_go(2)
        store.put_head(4095, 0, 4095)
        self.assertEqual(store.head(), ("head", 4095, 0, 4095, 2))
        self.assertEqual(store.page(0), ("head", 4095, 0, 4095, 2))


class TestRefusals(unittest.TestCase):
    def refused_in(self, store, name, do, *given):
        store.asked()
        seen = []
        store.watch(lambda number, page: seen.append(number))
        before = told(store.disk)
        error = assert_refused(self, name, do, *given)
        self.assertEqual((told(store.disk), seen, store.asked()), (before, [], []))
        return error

    def test_no_bundle_ahead_of_all(self):
        store = new_store(3)
        pages = pages_of(store)
        for at, thing in enumerate(things_but()):
            with self.subTest(at):
                self.refused_in(store, "NoBundle", store.put, thing, thing)
                self.refused_in(store, "NoBundle", store.put, 1, thing)
                self.refused_in(store, "NoBundle", store.put_head, thing, thing, thing)
                self.refused_in(store, "NoBundle", store.let_go, thing)
        self.refused_in(store, "NoBundle", store.put, 1, page("new"))
        self.refused_in(store, "NoBundle", store.put, 9, page("new"))
        self.refused_in(store, "NoBundle", store.put_head, 1, 1, 1)
        self.refused_in(store, "NoBundle", store.fresh)
        self.refused_in(store, "NoBundle", store.let_go, 0)
        self.refused_in(store, "NoBundle", store.let_go, 2)
        self.assertEqual(pages_of(store), pages)

    def test_pages_that_are_not_there(self):
        store = new_store(3)
        for inside in (False, True):
            for number in (3, 4, 4095, 4096, -1, -3, 10**5000):
                with self.subTest(inside=inside, bits=number.bit_length()):
                    self.assertEqual(self.refused_in(store, "BadPage", store.page, number).number, number)
            for at, thing in enumerate(things_but(int)):
                with self.subTest(inside=inside, at=at):
                    self.assertIsNone(self.refused_in(store, "BadPage", store.page, thing).number)
            if not inside:
                store.begin()

    def test_numbers_that_are_put(self):
        store = new_store(3)
        store.begin()
        for at, number in enumerate([-1, 4096, 10**5000, -(10**5000)] + things_but(int)):
            for thing in (page("new"), None):
                with self.subTest(at):
                    self.assertIsNone(self.refused_in(store, "BadPage", store.put, number, thing).number)
        for number in (4, 5, 4095):
            for thing in (page("new"), None):
                with self.subTest(number):
                    self.assertEqual(self.refused_in(store, "BadPage", store.put, number, thing).number, number)
        store.put(3, page(3))
        self.assertEqual(self.refused_in(store, "BadPage", store.put, 5, page(5)).number, 5)
        store.put(4, page(4))
        store.keep()
        self.assertEqual(pages_of(store), FIRST + [page(2), page(3), page(4)])

    def test_what_is_no_page_or_too_long(self):
        store = new_store(3)
        store.begin()
        things = [("rest", "x" * 58, 0), ("free",), ("free", 4096), ["free", 0], ("leaf", []), ("fork", (), ())]
        for at, thing in enumerate(things + things_but()):
            for number in (0, 1, 2, 3):
                with self.subTest(at=at, number=number):
                    self.assertEqual(self.refused_in(store, "BadPage", store.put, number, thing).number, number)
        store.keep()
        self.assertEqual(pages_of(store), FIRST + [page(2)])
        self.assertEqual(store.disk.rows(), [])

    def test_heads(self):
        store = new_store(3)
        store.begin()
        for at, thing in enumerate([-1, 4096, 10**5000] + things_but(int)):
            for place in range(3):
                given = [1, 1, 1]
                given[place] = thing
                with self.subTest(at=at, place=place):
                    self.assertEqual(self.refused_in(store, "BadPage", store.put_head, *given).number, 0)
        self.assertEqual(store.head(), FIRST[0])

    def test_pages_let_go_that_are_not_there(self):
        store = new_store(3)
        store.begin()
        for number in (3, 4, 4096, -1):
            self.assertEqual(self.refused_in(store, "BadPage", store.let_go, number).number, number)
        for at, thing in enumerate(things_but(int)):
            with self.subTest(at):
                self.assertIsNone(self.refused_in(store, "BadPage", store.let_go, thing).number)
        self.assertEqual(free_row(store), [])


class TestAsked(unittest.TestCase):
    def assert_asked(self, store, numbers, do, *given):
        store.asked()
        do(*given)
        self.assertEqual(store.asked(), numbers)
        self.assertEqual(store.asked(), [])

    def test_each_deed(self):
        store = new_store(6)
        self.assert_asked(store, [], store.begin)
        self.assert_asked(store, [3], store.page, 3)
        self.assert_asked(store, [0], store.page, 0)
        self.assert_asked(store, [0], store.head)
        self.assert_asked(store, [2], store.put, 2, page("new"))
        self.assert_asked(store, [6], store.put, 6, page("new"))
        self.assert_asked(store, [0], store.put_head, 1, 1, 1)
        self.assert_asked(store, [0, 7], store.fresh)
        self.assert_asked(store, [0, 4], store.let_go, 4)
        self.assert_asked(store, [0, 2], store.let_go, 2)
        self.assert_asked(store, [0, 2], store.fresh)
        self.assert_asked(store, [], store.is_open)
        self.assert_asked(store, [], store.watch, len)
        self.assert_asked(store, [], store.unwatch, len)
        self.assert_asked(store, [], store.undo)
        store.begin()
        store.put(5, page("new"))
        self.assert_asked(store, [], store.keep)
        self.assert_asked(store, [], store.rest)

    def test_coming_up_asks_for_none(self):
        store = new_store(3)
        kept(store, p2=page("new"))
        self.assertEqual(Store(store.disk).asked(), [])
        self.assertEqual(Store(Disk(64)).asked(), [])

    def test_the_rising_list_since_the_last_call(self):
        store = new_store(6)
        for number in (5, 2, 3, 2, 5):
            store.page(number)
        self.assertEqual(store.asked(), [2, 3, 5])
        store.page(1)
        store.begin()
        store.put(4, page("new"))
        store.undo()
        self.assertEqual(store.asked(), [1, 4])

    def test_a_told_list_may_be_changed(self):
        store = new_store(6)
        store.page(1)
        told_list = store.asked()
        told_list.append(5)
        store.page(2)
        self.assertEqual(store.asked(), [2])
        self.assertEqual(told_list, [1, 5])


class TestWatching(unittest.TestCase):
    def watched(self, store):
        seen = []

        def see(number, page):
            seen.append((number, page))
            there = store.page(number) if page is not None else assert_refused(self, "BadPage", store.page, number)
            self.assertEqual(there if page is not None else None, page)

        store.watch(see)
        return seen, see

    def test_ahead_of_each_change_with_the_page_as_it_is_then(self):
        store = new_store(4)
        seen, see = self.watched(store)
        store.begin()
        steps = (
            ((store.put, 2, page("new")), [(2, page(2))]),
            ((store.put, 2, page("newer")), [(2, page("new"))]),
            ((store.put, 2, page("newer")), [(2, page("newer"))]),
            ((store.put, 4, page("more")), [(4, None)]),
            ((store.put, 4, page("again")), [(4, page("more"))]),
            ((store.put_head, 1, 2, 3), [(0, FIRST[0])]),
            ((store.fresh,), [(5, None)]),
            ((store.let_go, 3), [(0, ("head", 1, 2, 3, 0)), (3, page(3))]),
            ((store.let_go, 2), [(0, ("head", 1, 2, 3, 3)), (2, page("newer"))]),
            ((store.fresh,), [(0, ("head", 1, 2, 3, 2)), (2, ("free", 3))]),
        )
        for at, (deed, changes) in enumerate(steps):
            seen.clear()
            deed[0](*deed[1:])
            with self.subTest(at):
                self.assertEqual(sorted(seen, key=lambda each: each[0]), changes)

    def test_nobody_is_told_of_what_is_no_change(self):
        store = new_store(4)
        seen, see = self.watched(store)
        store.begin()
        store.page(2)
        store.head()
        store.keep()
        store.begin()
        store.undo()
        store.asked()
        store.rest()
        self.assertEqual(seen, [])
        store.begin()
        store.put(2, page("new"))
        seen.clear()
        store.keep()
        store.rest()
        self.assertEqual(seen, [])

    def test_undo_tells_of_what_it_puts_back_and_lets_go(self):
        store = new_store(4)
        seen, see = self.watched(store)
        store.begin()
        store.put(3, page("new"))
        store.put(2, page("new"))
        store.put(2, page("newer"))
        store.put(4, page("more"))
        store.put(5, page("even more"))
        store.put_head(2, 2, 2)
        seen.clear()
        store.undo()
        told_of = [
            (0, ("head", 2, 2, 2, 0)),
            (2, page("newer")),
            (3, page("new")),
            (4, page("more")),
            (5, page("even more")),
        ]
        self.assertEqual(sorted(seen), told_of)
        self.assertEqual(pages_of(store), FIRST + [page(2), page(3)])

    def test_what_undo_has_told_of_is_done_as_it_goes_on(self):
        store = new_store(4)
        before = dict(enumerate(pages_of(store)))
        told_of = []

        def see(number, page):
            for each in told_of:
                if each in before:
                    self.assertEqual(store.page(each), before[each])
                else:
                    self.assertEqual(assert_refused(self, "BadPage", store.page, each).number, each)
            told_of.append(number)

        store.begin()
        for number in (4, 5, 3, 2, 4):
            store.put(number, page("new"))
        store.put_head(1, 1, 1)
        store.watch(see)
        store.undo()
        self.assertEqual(sorted(told_of), [0, 2, 3, 4, 5])

    def test_watchers_are_told_change_by_change_in_their_order(self):
        store = new_store(4)
        seen = []

        def watcher(name):
            return lambda number, page: seen.append((name, number))

        watchers = [watcher(name) for name in "cab"]
        for each in watchers:
            self.assertIsNone(store.watch(each))
        store.begin()
        store.put(2, page("new"))
        store.put(1, page("new"))
        self.assertEqual(seen, [(name, number) for number in (2, 1) for name in "cab"])
        seen.clear()
        store.let_go(3)
        numbers = [number for name, number in seen[::3]]
        self.assertEqual(sorted(numbers), [0, 3])
        self.assertEqual(seen, [(name, number) for number in numbers for name in "cab"])
        seen.clear()
        store.undo()
        numbers = [number for name, number in seen[::3]]
        self.assertEqual(sorted(numbers), [0, 1, 2, 3])
        self.assertEqual(seen, [(name, number) for number in numbers for name in "cab"])
        seen.clear()
        self.assertIsNone(store.unwatch(watchers[1]))
        store.begin()
        store.put(2, page("new"))
        self.assertEqual(seen, [("c", 2), ("b", 2)])
        store.watch(watchers[1])
        store.put(2, page("newer"))
        self.assertEqual(seen[2:], [("c", 2), ("b", 2), ("a", 2)])

    def test_unwatch_of_what_is_not_there(self):
        store = new_store(3)
        seen, see = self.watched(store)
        self.assertIsNone(store.unwatch(len))
        store.begin()
        store.put(2, page("new"))
        self.assertEqual(seen, [(2, page(2))])
        self.assertIsNone(store.unwatch(see))
        self.assertIsNone(store.unwatch(see))
        store.put(2, page("newer"))
        store.undo()
        self.assertEqual(seen, [(2, page(2))])

    def test_one_who_goes_while_being_told(self):
        store = new_store(3)
        seen = []

        def once(number, page):
            seen.append("once")
            store.unwatch(once)

        store.watch(once)
        store.watch(lambda number, page: seen.append("always"))
        store.begin()
        store.put(2, page("new"))
        store.put(2, page("newer"))
        self.assertEqual(seen, ["once", "always", "always"])

    def test_coming_up_tells_nobody_and_stores_do_not_share(self):
        store = new_store(3)
        seen, see = self.watched(store)
        kept(store, p2=page("new"))
        seen.clear()
        other = Store(store.disk)
        kept(other, p2=page("newer"))
        self.assertEqual(seen, [])


class TestRuns(unittest.TestCase):
    def step(self, chance, store, pages, free):
        """One deed of a bundle, upon a store and upon a list of pages and one of free ones."""
        deed = chance.choice(["put", "put", "head", "fresh", "let_go"])
        used = [number for number in range(1, len(pages)) if number not in free]
        if deed == "put" and used:
            number = chance.choice(used)
            pages[number] = ("rest", str(chance.randrange(1000)), chance.randrange(5))
            store.put(number, pages[number])
        elif deed == "head":
            pages[0] = ("head", chance.randrange(9), 1, chance.randrange(99), pages[0][4])
            store.put_head(*pages[0][1:4])
        elif deed == "fresh":
            number = free.pop(0) if free else len(pages)
            pages[number:number + 1] = [EMPTY]
            self.assertEqual(store.fresh(), number)
        elif deed == "let_go" and used:
            number = chance.choice(used)
            free.insert(0, number)
            store.let_go(number)
        self.link(pages, free)

    def link(self, pages, free):
        for number, after in zip([0] + free, free + [0]):
            pages[number] = pages[0][:4] + (after,) if number == 0 else ("free", after)

    def test_each_step_is_as_told(self):
        for most in (2, 5, 40):
            chance = random.Random(most)
            store = Store(Disk(64), most)
            pages, free = list(FIRST), []
            for turn in range(60):
                now, now_free = list(pages), list(free)
                store.begin()
                for step in range(chance.randrange(6)):
                    self.step(chance, store, now, now_free)
                with self.subTest(most=most, turn=turn):
                    self.assertEqual(pages_of(store), now)
                    if chance.randrange(3) == 0:
                        store.undo()
                    else:
                        store.keep()
                        pages, free = now, now_free
                    self.assertEqual(pages_of(store), pages)
                    self.assertEqual(free_row(store), free)
                    self.assertLessEqual(len(store.disk.rows()), 40)
                if chance.randrange(9) == 0:
                    store.rest()
                    self.assertEqual((pages_on(store.disk), store.disk.rows()), (pages, []))
                if chance.randrange(9) == 0:
                    store = Store(store.disk, most)
                    self.assertEqual((pages_on(store.disk), store.disk.rows()), (pages, []))


if __name__ == "__main__":
    unittest.main()
