import unittest

from leafhouse.disk import Disk
from tests.helper import ALL_SIGNS, assert_refused, text_by_hand, things_but

OLD = text_by_hand("r", "00" + "old" * 19)
NEW = text_by_hand("r", "00" + "NEW" * 19)
LEAF = text_by_hand("l", "0")
ROW = "a row of the journal"


def told(disk):
    return (disk.pages(), disk.rows(), disk.writes(), disk.is_off())


def disk_with(pages=(), rows=()):
    disk = Disk(64)
    for number, text in enumerate(pages):
        disk.write(number, text)
    for row in rows:
        disk.add(row)
    return disk


class TestWrites(unittest.TestCase):
    def test_a_new_disk(self):
        for size in (64, 65, 199, 200):
            disk = Disk(size)
            self.assertEqual(disk.size, size)
            self.assertEqual(told(disk), ([], [], 0, False))

    def test_sizes(self):
        for at, size in enumerate([63, 201, 0, -64, 10**5000] + things_but(int)):
            with self.subTest(at):
                assert_refused(self, "BadSize", Disk, size)

    def test_each_deed_is_there_at_once(self):
        disk = Disk(64)
        self.assertIsNone(disk.write(0, OLD))
        self.assertEqual(told(disk), ([OLD], [], 1, False))
        self.assertIsNone(disk.write(1, LEAF))
        self.assertEqual(told(disk), ([OLD, LEAF], [], 2, False))
        self.assertIsNone(disk.add(ROW))
        self.assertEqual(told(disk), ([OLD, LEAF], [ROW], 3, False))
        self.assertIsNone(disk.write(0, NEW))
        self.assertEqual(told(disk), ([NEW, LEAF], [ROW], 4, False))
        self.assertIsNone(disk.add(""))
        self.assertIsNone(disk.add(ALL_SIGNS * 5))
        self.assertIsNone(disk.add(ROW))
        self.assertEqual(told(disk), ([NEW, LEAF], [ROW, "", ALL_SIGNS * 5, ROW], 7, False))
        self.assertIsNone(disk.write(1, NEW))
        self.assertIsNone(disk.clear())
        self.assertEqual(told(disk), ([NEW, NEW], [], 9, False))
        self.assertIsNone(disk.clear())
        self.assertEqual(told(disk), ([NEW, NEW], [], 10, False))
        self.assertIsNone(disk.write(1, NEW))
        self.assertEqual(told(disk), ([NEW, NEW], [], 11, False))

    def test_a_told_list_may_be_changed(self):
        disk = disk_with([OLD], [ROW])
        before = told(disk)
        pages, rows = disk.pages(), disk.rows()
        pages[0] = "another"
        pages.append(NEW)
        rows.clear()
        self.assertEqual(told(disk), before)

    def test_a_told_list_stays_as_it_is(self):
        disk = disk_with([OLD], [ROW])
        pages, rows = disk.pages(), disk.rows()
        disk.write(0, NEW)
        disk.write(1, NEW)
        disk.add("more")
        self.assertEqual((pages, rows), ([OLD], [ROW]))
        rows = disk.rows()
        disk.clear()
        self.assertEqual(rows, [ROW, "more"])

    def test_disks_do_not_share(self):
        first, second = Disk(64), Disk(64)
        first.write(0, OLD)
        first.add(ROW)
        first.fall(1, 0)
        assert_refused(self, "PowerGone", first.clear)
        self.assertEqual(told(second), ([], [], 0, False))


class TestRefusals(unittest.TestCase):
    def assert_refused(self, name, disk, do, *given):
        before = told(disk)
        error = assert_refused(self, name, do, *given)
        self.assertEqual(told(disk), before)
        return error

    def test_numbers_of_writes(self):
        for pages in ([], [OLD], [OLD, LEAF]):
            disk = disk_with(pages)
            for at, number in enumerate([len(pages) + 1, 4095, -1, -2, 10**5000] + things_but(int)):
                for text in (NEW, "no page", None):
                    with self.subTest(pages=len(pages), at=at):
                        self.assert_refused("BadNumber", disk, disk.write, number, text)

    def test_texts_of_writes(self):
        texts = [
            "",
            " " * 64,
            "0" * 64,
            OLD[:-1],
            OLD + "0",
            OLD[:63] + "~",
            "x" + OLD[1:],
            text_by_hand("e", "00", 65),
            text_by_hand("e", "00", 200),
        ]
        disk = disk_with([OLD, OLD])
        for at, text in enumerate(texts + things_but(str)):
            for number in (0, 1, 2):
                with self.subTest(at=at, number=number):
                    error = self.assert_refused("BadPage", disk, disk.write, number, text)
                    self.assertEqual(error.number, number)

    def test_a_text_of_the_disks_own_size(self):
        for size in (64, 65, 200):
            disk = Disk(size)
            for other in (64, 65, 200):
                text = text_by_hand("e", "00", other)
                if other == size:
                    disk.write(0, text)
                    self.assertEqual(disk.pages(), [text])
                else:
                    self.assert_refused("BadPage", disk, disk.write, 0, text)

    def test_rows(self):
        disk = disk_with([OLD], [ROW])
        for at, row in enumerate(["\n", "a\tb", "a\r"] + things_but(str)):
            with self.subTest(at):
                self.assert_refused("BadText", disk, disk.add, row)

    def test_falls(self):
        disk = disk_with([OLD], [ROW])
        for at, turn in enumerate([0, -1, -(10**5000)] + things_but(int)):
            for cut in (0, 1, -1, None):
                with self.subTest(at=at, cut=cut):
                    self.assert_refused("BadNumber", disk, disk.fall, turn, cut)
        for at, cut in enumerate([-1, -(10**5000)] + things_but(int)):
            with self.subTest(at):
                self.assert_refused("BadNumber", disk, disk.fall, 1, cut)
        disk.write(0, NEW)
        self.assertEqual(told(disk), ([NEW], [ROW], 3, False))

    def test_a_refused_fall_leaves_the_awaited_one(self):
        disk = disk_with([OLD])
        disk.fall(2, 5)
        self.assert_refused("BadNumber", disk, disk.fall, 0, 1)
        self.assert_refused("BadNumber", disk, disk.fall, 1, -1)
        disk.add(ROW)
        assert_refused(self, "PowerGone", disk.add, ROW)
        self.assertEqual(told(disk), ([OLD], [ROW, ROW[:5]], 3, True))

    def test_refused_writes_are_no_turn(self):
        disk = disk_with([OLD])
        disk.fall(2, 0)
        for turn in range(3):
            self.assert_refused("BadNumber", disk, disk.write, 2, NEW)
            self.assert_refused("BadPage", disk, disk.write, 0, "")
            self.assert_refused("BadText", disk, disk.add, None)
        disk.write(0, NEW)
        self.assertEqual(told(disk), ([NEW], [], 2, False))
        assert_refused(self, "PowerGone", disk.write, 0, OLD)
        self.assertEqual(told(disk), ([NEW], [], 3, True))

    def test_what_is_handed_in_is_refused_ahead_of_the_power(self):
        disk = disk_with([OLD])
        disk.fall(1, 3)
        for off in (False, True):
            self.assertIs(disk.is_off(), off)
            self.assert_refused("BadNumber", disk, disk.write, 2, NEW)
            self.assert_refused("BadNumber", disk, disk.write, 2, None)
            self.assertEqual(self.assert_refused("BadPage", disk, disk.write, 0, "").number, 0)
            self.assert_refused("BadText", disk, disk.add, 1)
            self.assert_refused("BadNumber", disk, disk.fall, 0, 0)
            if not off:
                assert_refused(self, "PowerGone", disk.clear)


class TestFalls(unittest.TestCase):
    def test_a_page_that_stands(self):
        for cut in range(67):
            disk = disk_with([LEAF, OLD])
            self.assertIsNone(disk.fall(1, cut))
            assert_refused(self, "PowerGone", disk.write, 1, NEW)
            with self.subTest(cut):
                self.assertEqual(told(disk), ([LEAF, NEW[:cut] + OLD[cut:]], [], 3, True))

    def test_a_new_page(self):
        for cut in range(67):
            disk = disk_with([LEAF])
            disk.fall(1, cut)
            assert_refused(self, "PowerGone", disk.write, 1, NEW)
            with self.subTest(cut):
                self.assertEqual(told(disk), ([LEAF, NEW[:cut] + " " * max(64 - cut, 0)], [], 2, True))

    def test_a_row(self):
        for cut in range(len(ROW) + 3):
            disk = disk_with([LEAF], ["first"])
            disk.fall(1, cut)
            assert_refused(self, "PowerGone", disk.add, ROW)
            with self.subTest(cut):
                self.assertEqual(told(disk), ([LEAF], ["first", ROW[:cut]], 3, True))

    def test_a_clearing(self):
        for cut in (0, 1, 5, 1000):
            disk = disk_with([LEAF], [ROW, ROW])
            disk.fall(1, cut)
            assert_refused(self, "PowerGone", disk.clear)
            with self.subTest(cut):
                self.assertEqual(told(disk), ([LEAF], [ROW, ROW], 4, True))

    def test_a_great_cut_is_whole(self):
        disk = disk_with([OLD])
        disk.fall(1, 10**5000)
        assert_refused(self, "PowerGone", disk.write, 0, NEW)
        self.assertEqual(told(disk), ([NEW], [], 2, True))

    def test_later_turns(self):
        for turn in range(1, 9):
            disk = Disk(64)
            disk.fall(turn, 4)
            for done in range(1, turn):
                disk.add(ROW)
                self.assertEqual(told(disk), ([], [ROW] * done, done, False))
            assert_refused(self, "PowerGone", disk.add, ROW)
            with self.subTest(turn):
                self.assertEqual(told(disk), ([], [ROW] * (turn - 1) + [ROW[:4]], turn, True))

    def test_each_of_the_three_is_a_turn(self):
        disk = disk_with([OLD], [ROW])
        disk.fall(4, 2)
        disk.write(0, NEW)
        disk.add(ROW)
        disk.clear()
        assert_refused(self, "PowerGone", disk.write, 1, NEW)
        self.assertEqual(told(disk), ([NEW, NEW[:2] + " " * 62], [], 6, True))

    def test_nothing_is_written_nor_counted_while_it_is_off(self):
        disk = disk_with([OLD], [ROW])
        disk.fall(1, 0)
        assert_refused(self, "PowerGone", disk.clear)
        before = told(disk)
        for turn in range(3):
            assert_refused(self, "PowerGone", disk.write, 0, NEW)
            assert_refused(self, "PowerGone", disk.write, 1, NEW)
            assert_refused(self, "PowerGone", disk.add, ROW)
            assert_refused(self, "PowerGone", disk.clear)
            self.assertEqual(told(disk), before)
        self.assertEqual(before, ([OLD], [ROW], 3, True))

    def test_up(self):
        disk = disk_with([OLD], [ROW])
        disk.fall(1, 0)
        assert_refused(self, "PowerGone", disk.clear)
        self.assertIsNone(disk.up())
        self.assertEqual(told(disk), ([OLD], [ROW], 3, False))
        disk.write(0, NEW)
        disk.clear()
        disk.add(ROW)
        self.assertEqual(told(disk), ([NEW], [ROW], 6, False))

    def test_a_page_done_in_part_may_be_written_again(self):
        disk = disk_with([OLD])
        disk.fall(1, 7)
        assert_refused(self, "PowerGone", disk.write, 1, NEW)
        disk.up()
        disk.write(1, OLD)
        disk.write(2, NEW)
        self.assertEqual(disk.pages(), [OLD, OLD, NEW])

    def test_up_forgets_what_was_awaited(self):
        disk = disk_with([OLD])
        disk.fall(1, 0)
        self.assertIsNone(disk.up())
        disk.add(ROW)
        disk.fall(2, 0)
        disk.add(ROW)
        disk.up()
        disk.add(ROW)
        disk.add(ROW)
        self.assertEqual(told(disk), ([OLD], [ROW] * 4, 5, False))

    def test_up_of_a_disk_that_is_on(self):
        disk = disk_with([OLD])
        self.assertIsNone(disk.up())
        disk.write(0, NEW)
        self.assertEqual(told(disk), ([NEW], [], 2, False))

    def test_a_fall_while_one_is_awaited(self):
        disk = Disk(64)
        disk.fall(2, 1)
        disk.add(ROW)
        disk.fall(3, 6)
        disk.add(ROW)
        disk.add(ROW)
        assert_refused(self, "PowerGone", disk.add, ROW)
        self.assertEqual(told(disk), ([], [ROW] * 3 + [ROW[:6]], 4, True))
        disk = Disk(64)
        disk.fall(9, 1)
        disk.fall(1, 2)
        assert_refused(self, "PowerGone", disk.add, ROW)
        self.assertEqual(told(disk), ([], [ROW[:2]], 1, True))

    def test_a_fall_while_it_is_off(self):
        disk = Disk(64)
        disk.fall(1, 1)
        assert_refused(self, "PowerGone", disk.add, ROW)
        self.assertIsNone(disk.fall(1, 5))
        self.assertIs(disk.is_off(), True)
        assert_refused(self, "PowerGone", disk.add, ROW)
        self.assertEqual(told(disk), ([], [ROW[:1]], 1, True))
        disk.up()
        disk.add(ROW)
        disk.add(ROW)
        self.assertEqual(told(disk), ([], [ROW[:1], ROW, ROW], 3, False))

    def test_a_fall_once_more(self):
        disk = Disk(64)
        for many in range(1, 5):
            disk.fall(1, many)
            assert_refused(self, "PowerGone", disk.add, ROW)
            disk.up()
            self.assertEqual(told(disk), ([], [ROW[:each] for each in range(1, many + 1)], many, False))


if __name__ == "__main__":
    unittest.main()
