import random
import unittest

from leafhouse.disk import Disk
from leafhouse.pages import page_text
from leafhouse.shelf import Shelf
from tests.helper import assert_refused, things_but


def page(number, word="page"):
    return ("rest", f"{word} {number}", 0)


def disk_with(many, size=64):
    disk = Disk(size)
    for number in range(many):
        disk.write(number, page_text(page(number), size))
    return disk


def told(shelf):
    return (shelf.held(), shelf.changed(), shelf.reads(), shelf.disk.pages(), shelf.disk.writes())


class Model:
    """A shelf as point 8 tells it, step by step."""

    def __init__(self, pages, most):
        self.pages = dict(enumerate(pages))
        self.most = most
        self.held = []
        self.changed = {}
        self.reads = 0

    def asked(self, number):
        if number in self.held:
            self.held.remove(number)
        self.held.append(number)

    def trim(self):
        while len(self.held) > self.most:
            unchanged = [number for number in self.held if number not in self.changed]
            if not unchanged:
                break
            self.held.remove(unchanged[0])

    def page(self, number):
        self.reads += number not in self.held
        self.asked(number)
        self.trim()
        return self.changed.get(number, self.pages[number])

    def put(self, number, page):
        self.changed[number] = page
        self.asked(number)
        self.trim()

    def write(self, number):
        if number in self.changed:
            self.pages[number] = self.changed.pop(number)
        self.trim()


class TestAsking(unittest.TestCase):
    def test_a_new_shelf(self):
        disk = disk_with(3)
        shelf = Shelf(disk, 2)
        self.assertEqual((shelf.held(), shelf.changed(), shelf.reads()), ([], [], 0))
        self.assertEqual(disk.writes(), 3)

    def test_sizes(self):
        disk = disk_with(1)
        for at, most in enumerate([1, 41, 0, -2, 10**5000, -(10**5000)] + things_but(int)):
            with self.subTest(at):
                assert_refused(self, "BadSize", Shelf, disk, most)
        for most in range(2, 41):
            Shelf(disk, most)

    def test_a_page_is_read_if_it_is_not_held(self):
        shelf = Shelf(disk_with(4), 2)
        steps = (
            (0, [0], 1),
            (0, [0], 1),
            (1, [0, 1], 2),
            (0, [1, 0], 2),
            (2, [0, 2], 3),
            (0, [2, 0], 3),
            (1, [0, 1], 4),
            (3, [1, 3], 5),
            (1, [3, 1], 5),
        )
        for at, (number, held, reads) in enumerate(steps):
            with self.subTest(at):
                self.assertEqual(shelf.page(number), page(number))
                self.assertEqual((shelf.held(), shelf.changed(), shelf.reads()), (held, [], reads))

    def test_so_many_are_held(self):
        disk = disk_with(45)
        for most in range(2, 41):
            shelf = Shelf(disk, most)
            for number in range(45):
                shelf.page(number)
                self.assertEqual(shelf.held(), list(range(max(0, number + 1 - most), number + 1)))

    def test_a_page_that_is_not_there(self):
        shelf = Shelf(disk_with(3), 2)
        shelf.page(1)
        before = told(shelf)
        for number in (3, 4, 4095, 4096, -1, -3, 10**5000, -(10**5000)):
            with self.subTest(bits=number.bit_length()):
                self.assertEqual(assert_refused(self, "BadPage", shelf.page, number).number, number)
                self.assertEqual(told(shelf), before)

    def test_no_whole_number(self):
        shelf = Shelf(disk_with(3), 2)
        shelf.page(1)
        before = told(shelf)
        for at, thing in enumerate(things_but(int)):
            with self.subTest(at):
                self.assertIsNone(assert_refused(self, "BadPage", shelf.page, thing).number)
                self.assertEqual(told(shelf), before)

    def test_a_text_that_is_no_pages(self):
        for number in (1, 2):
            for cut in (1, 2, 12, 61, 63):
                disk = disk_with(2)
                disk.fall(1, cut)
                assert_refused(self, "PowerGone", disk.write, number, page_text(("free", 5), 64))
                shelf = Shelf(disk, 2)
                shelf.page(0)
                before = told(shelf)
                with self.subTest(number=number, cut=cut):
                    self.assertEqual(assert_refused(self, "BadPage", shelf.page, number).number, number)
                    self.assertEqual(told(shelf), before)


class TestPutting(unittest.TestCase):
    def test_it_is_that_one_and_changed(self):
        shelf = Shelf(disk_with(3), 2)
        self.assertIsNone(shelf.put(1, page(1, "new")))
        self.assertEqual((shelf.held(), shelf.changed(), shelf.reads()), ([1], [1], 0))
        self.assertEqual(shelf.page(1), page(1, "new"))
        self.assertEqual(shelf.reads(), 0)
        self.assertEqual(shelf.disk.writes(), 3)
        shelf.put(1, page(1, "newer"))
        self.assertEqual(shelf.page(1), page(1, "newer"))
        self.assertEqual((shelf.held(), shelf.changed()), ([1], [1]))

    def test_the_same_page_is_changed_too(self):
        shelf = Shelf(disk_with(1), 2)
        shelf.put(0, shelf.page(0))
        self.assertEqual(shelf.changed(), [0])

    def test_changed_ones_stay_and_the_very_one_goes(self):
        shelf = Shelf(disk_with(6), 2)
        shelf.put(3, page(3, "new"))
        shelf.put(1, page(1, "new"))
        self.assertEqual(shelf.held(), [3, 1])
        self.assertEqual(shelf.page(0), page(0))
        self.assertEqual((shelf.held(), shelf.changed(), shelf.reads()), ([3, 1], [1, 3], 1))
        self.assertEqual(shelf.page(0), page(0))
        self.assertEqual((shelf.held(), shelf.reads()), ([3, 1], 2))
        shelf.put(5, page(5, "new"))
        self.assertEqual((shelf.held(), shelf.changed()), ([3, 1, 5], [1, 3, 5]))
        self.assertEqual(shelf.page(3), page(3, "new"))
        self.assertEqual((shelf.held(), shelf.reads()), ([1, 5, 3], 2))

    def test_an_unchanged_one_goes_for_a_changed_one(self):
        shelf = Shelf(disk_with(6), 3)
        for number in (0, 1, 2):
            shelf.page(number)
        shelf.put(0, page(0, "new"))
        self.assertEqual(shelf.held(), [1, 2, 0])
        shelf.put(4, page(4, "new"))
        self.assertEqual(shelf.held(), [2, 0, 4])
        shelf.put(5, page(5, "new"))
        self.assertEqual(shelf.held(), [0, 4, 5])

    def test_numbers(self):
        shelf = Shelf(disk_with(3), 2)
        shelf.put(1, page(1, "new"))
        before = told(shelf)
        for at, number in enumerate([-1, 4096, 10**5000, -(10**5000)] + things_but(int)):
            for thing in (page(0), None, ("rest", "x" * 58, 0)):
                with self.subTest(at):
                    self.assertIsNone(assert_refused(self, "BadPage", shelf.put, number, thing).number)
                    self.assertEqual(told(shelf), before)

    def test_what_is_no_page_or_too_long(self):
        shelf = Shelf(disk_with(3), 2)
        shelf.put(1, page(1, "new"))
        before = told(shelf)
        things = [("rest", "x" * 58, 0), ("free",), ("free", 4096), ["free", 0], ("leaf", []), ("fork", (), ())]
        for at, thing in enumerate(things + things_but()):
            for number in (0, 1, 2, 3, 4095):
                with self.subTest(at=at, number=number):
                    self.assertEqual(assert_refused(self, "BadPage", shelf.put, number, thing).number, number)
                    self.assertEqual(told(shelf), before)

    def test_a_page_that_fills_the_room(self):
        for size in (64, 200):
            shelf = Shelf(disk_with(1, size), 2)
            full = ("rest", "x" * (size - 7), 0)
            shelf.put(0, full)
            self.assertEqual(shelf.page(0), full)
            assert_refused(self, "BadPage", shelf.put, 0, ("rest", "x" * (size - 6), 0))
            self.assertEqual(shelf.page(0), full)

    def test_all_numbers_may_be_put(self):
        shelf = Shelf(disk_with(1), 2)
        for number in (4095, 1, 17):
            shelf.put(number, page(number))
            self.assertEqual(shelf.page(number), page(number))
        self.assertEqual(shelf.changed(), [1, 17, 4095])


class TestWriting(unittest.TestCase):
    def test_a_changed_page_is_written(self):
        shelf = Shelf(disk_with(3), 2)
        shelf.put(1, page(1, "new"))
        self.assertIsNone(shelf.write(1))
        self.assertEqual(shelf.disk.pages()[1], page_text(page(1, "new"), 64))
        self.assertEqual((shelf.held(), shelf.changed(), shelf.disk.writes()), ([1], [], 4))
        self.assertIsNone(shelf.write(1))
        self.assertEqual(shelf.disk.writes(), 4)
        self.assertEqual((shelf.page(1), shelf.reads()), (page(1, "new"), 0))

    def test_where_nothing_was_changed_nothing_is_written(self):
        shelf = Shelf(disk_with(3), 2)
        shelf.page(0)
        before = told(shelf)
        for number in (0, 1, 2, 3, 4095):
            self.assertIsNone(shelf.write(number))
            self.assertEqual(told(shelf), before)

    def test_the_next_number_makes_a_page(self):
        shelf = Shelf(disk_with(1), 2)
        shelf.put(1, page(1))
        shelf.write(1)
        self.assertEqual(shelf.disk.pages(), [page_text(page(each), 64) for each in (0, 1)])

    def test_writing_is_no_asking(self):
        shelf = Shelf(disk_with(4), 3)
        for number in (2, 0, 1):
            shelf.put(number, page(number, "new"))
        shelf.write(2)
        self.assertEqual((shelf.held(), shelf.changed()), ([2, 0, 1], [0, 1]))
        shelf.page(3)
        self.assertEqual(shelf.held(), [0, 1, 3])

    def test_behind_a_writing_one_goes_perhaps_the_very_one(self):
        shelf = Shelf(disk_with(5), 2)
        for number in (3, 0, 1, 2):
            shelf.put(number, page(number, "new"))
        self.assertEqual(shelf.held(), [3, 0, 1, 2])
        shelf.write(1)
        self.assertEqual((shelf.held(), shelf.changed()), ([3, 0, 2], [0, 2, 3]))
        shelf.write(3)
        self.assertEqual((shelf.held(), shelf.changed()), ([0, 2], [0, 2]))
        shelf.write(0)
        self.assertEqual((shelf.held(), shelf.changed()), ([0, 2], [2]))
        self.assertEqual((shelf.page(1), shelf.reads()), (page(1, "new"), 1))
        self.assertEqual(shelf.held(), [2, 1])

    def test_a_write_that_the_disk_refuses(self):
        shelf = Shelf(disk_with(2), 2)
        for number in (0, 3, 1):
            shelf.put(number, page(number, "new"))
        before = told(shelf)
        assert_refused(self, "BadNumber", shelf.write, 3)
        self.assertEqual(told(shelf), before)
        shelf.disk.fall(1, 5)
        assert_refused(self, "PowerGone", shelf.write, 0)
        self.assertEqual((shelf.held(), shelf.changed()), ([0, 3, 1], [0, 1, 3]))
        assert_refused(self, "PowerGone", shelf.write, 1)
        self.assertEqual((shelf.held(), shelf.changed()), ([0, 3, 1], [0, 1, 3]))
        shelf.disk.up()
        shelf.write(0)
        self.assertEqual((shelf.held(), shelf.changed()), ([3, 1], [1, 3]))
        self.assertEqual(shelf.page(0), page(0, "new"))

    def test_forget(self):
        shelf = Shelf(disk_with(4), 2)
        shelf.page(3)
        for number in (0, 1, 2):
            shelf.put(number, page(number, "new"))
        shelf.write(2)
        self.assertIsNone(shelf.forget())
        self.assertEqual((shelf.held(), shelf.changed(), shelf.reads()), ([], [], 1))
        self.assertEqual([shelf.page(number) for number in range(3)], [page(0), page(1), page(2, "new")])
        self.assertEqual((shelf.held(), shelf.reads()), ([1, 2], 4))
        shelf.forget()
        shelf.forget()
        self.assertEqual((shelf.held(), shelf.changed(), shelf.reads(), shelf.disk.writes()), ([], [], 4, 5))

    def test_told_lists_may_be_changed_and_stay(self):
        shelf = Shelf(disk_with(4), 3)
        shelf.page(2)
        shelf.put(1, page(1, "new"))
        held, changed = shelf.held(), shelf.changed()
        shelf.put(0, page(0, "new"))
        self.assertEqual((held, changed), ([2, 1], [1]))
        before = told(shelf)
        for each in (shelf.held(), shelf.changed()):
            each.clear()
            each.append(4)
        self.assertEqual(told(shelf), before)


class TestRuns(unittest.TestCase):
    def test_each_step_is_as_told(self):
        for most in (2, 3, 5, 8, 39, 40):
            chance = random.Random(most)
            shelf = Shelf(disk_with(48), most)
            model = Model([page(number) for number in range(48)], most)
            for step in range(600):
                number = chance.randrange(48)
                deed = chance.choice(["page", "page", "put", "write", "write"])
                if deed == "page":
                    self.assertEqual(shelf.page(number), model.page(number))
                elif deed == "put":
                    shelf.put(number, page(number, f"new {step}"))
                    model.put(number, page(number, f"new {step}"))
                else:
                    shelf.write(number)
                    model.write(number)
                with self.subTest(most=most, step=step):
                    self.assertEqual(shelf.held(), model.held)
                    self.assertEqual(shelf.changed(), sorted(model.changed))
                    self.assertEqual(shelf.reads(), model.reads)
            texts = [page_text(model.pages[number], 64) for number in range(48)]
            self.assertEqual(shelf.disk.pages(), texts)

    def test_a_shelf_of_another_number_tells_the_same_pages(self):
        told_pages = []
        for most in (2, 3, 11, 40):
            chance = random.Random(7)
            shelf = Shelf(disk_with(20), most)
            pages = []
            for step in range(400):
                number = chance.randrange(20)
                deed = chance.randrange(4)
                if deed == 0:
                    shelf.put(number, page(number, f"new {step}"))
                elif deed == 1:
                    shelf.write(number)
                else:
                    pages.append(shelf.page(number))
            told_pages.append((pages, shelf.changed(), shelf.disk.pages(), shelf.disk.writes()))
        for each in told_pages[1:]:
            self.assertEqual(each, told_pages[0])


if __name__ == "__main__":
    unittest.main()
