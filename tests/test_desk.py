import copy
import unittest

from leafhouse.desk import answered, played
from leafhouse.disk import Disk
from leafhouse.errors import PowerGone
from leafhouse.looker import faults
from leafhouse.pages import page_text
from leafhouse.table import Table
from tests.helper import assert_refused, pages_of, things_but

NO_LINES = (
    "",
    " ",
    "  ",
    "put",
    "put ",
    "put a",
    "get",
    "take",
    "get a b",
    "get a ",
    "get  a",
    "get  ",
    "take a b",
    "take a ",
    "take  a",
    "begin ",
    " begin",
    "begin a",
    "begin  ",
    "keep a",
    "undo ",
    "rest now",
    " rest",
    "many a",
    "many ",
    "keys ",
    " keys",
    "look 0",
    "look ",
    "puts a b",
    " put a b",
    " get a",
    " take a",
    "has a",
    "Begin",
    "GET a",
    "done",
    "a",
    "begin\n",
    "\tkeys",
    "get\ta",
)


class Desk(unittest.TestCase):
    def assert_answers(self, table, pairs):
        for line, answer in pairs:
            with self.subTest(line):
                self.assertEqual(answered(table, line), answer)


class TestLines(Desk):
    def test_each_line(self):
        table = Table(Disk(64))
        self.assert_answers(
            table,
            [
                ("many", ["0"]),
                ("keys", ["none"]),
                ("look", ["good"]),
                ("put a one", ["done"]),
                ("put b two", ["done"]),
                ("get a", ["one"]),
                ("many", ["2"]),
                ("keys", ["a", "b"]),
                ("begin", ["done"]),
                ("take a", ["done"]),
                ("put c three", ["done"]),
                ("keys", ["b", "c"]),
                ("undo", ["done"]),
                ("keys", ["a", "b"]),
                ("begin", ["done"]),
                ("put b other", ["done"]),
                ("keep", ["done"]),
                ("get b", ["other"]),
                ("rest", ["done"]),
                ("look", ["good"]),
                ("take b", ["done"]),
                ("take a", ["done"]),
                ("keys", ["none"]),
                ("many", ["0"]),
            ],
        )
        self.assertEqual(table.all_keys(), [])

    def test_values(self):
        table = Table(Disk(64))
        values = ["", " ", "   ", "a value with blanks", " ahead", "behind ", "put a b", "v" * 400, "get", "~!#$&'()"]
        for value in values:
            with self.subTest(value):
                self.assertEqual(answered(table, "put key " + value), ["done"])
                self.assertEqual(table.get("key"), value)
                self.assertEqual(answered(table, "get key"), [value])

    def test_keys_of_other_lengths(self):
        table = Table(Disk(64))
        for long in range(1, 13):
            key = "abcdefghijkl"[:long]
            self.assert_answers(table, [(f"put {key} {long}", ["done"]), (f"get {key}", [str(long)])])
        self.assertEqual(answered(table, "keys"), ["abcdefghijkl"[:long] for long in range(1, 13)])
        self.assertEqual(answered(table, "many"), ["12"])
        for long in range(1, 13):
            self.assertEqual(answered(table, "take " + "abcdefghijkl"[:long]), ["done"])
        self.assertEqual(answered(table, "keys"), ["none"])

    def test_lines_are_deeds_of_their_own(self):
        table = Table(Disk(64))
        answered(table, "put none value")
        self.assertEqual(answered(table, "keys"), ["none"])
        self.assertEqual(Table(table.store.disk).get("none"), "value")

    def test_told_lists_are_the_askers_own(self):
        table = Table(Disk(64))
        for line in ("put a b", "get a", "keys", "many", "look", "no line", "get b"):
            told = answered(table, line)
            before = list(told)
            again = answered(table, line)
            told.append("more")
            self.assertEqual((again, answered(table, line)), (before, before))


class TestRefusals(Desk):
    def state(self, table):
        disk = table.store.disk
        told = (table.all_keys(), table.is_open(), table.touched(), pages_of(table.store))
        return told + (disk.pages(), disk.rows(), disk.writes())

    def assert_refused_lines(self, table, pairs):
        for line, answer in pairs:
            before = self.state(table)
            with self.subTest(str(line)):
                self.assertEqual(answered(table, line), [answer])
                self.assertEqual(self.state(table), before)

    def test_each(self):
        table = Table(Disk(64))
        table.put("a", "b")
        table.has("z")
        self.assert_refused_lines(
            table,
            [
                ("get z", "no key"),
                ("take z", "no key"),
                ("keep", "no bundle"),
                ("undo", "no bundle"),
                ("get ", "bad key"),
                ("take ", "bad key"),
                ("put  value", "bad key"),
                ("put  ", "bad key"),
                ("get " + "k" * 13, "bad key"),
                ("take " + "k" * 13, "bad key"),
                ("put " + "k" * 13 + " value", "bad key"),
                ("put " + "k" * 13 + " " + "v" * 401, "bad key"),
                ("put a " + "v" * 401, "bad value"),
                ("put new " + " " * 401, "bad value"),
            ],
        )
        table.begin()
        self.assert_refused_lines(
            table, [("begin", "in bundle"), ("rest", "in bundle"), ("look", "in bundle"), ("get z", "no key")]
        )

    def test_lines_that_are_none(self):
        for inside in (False, True):
            table = Table(Disk(64))
            table.put("a", "b")
            if inside:
                table.begin()
                table.put("c", "d")
            self.assert_refused_lines(table, [(line, "bad line") for line in NO_LINES])

    def test_things_that_are_no_texts(self):
        table = Table(Disk(64))
        table.put("a", "b")
        before = self.state(table)
        for at, thing in enumerate(things_but(str) + [["get a"], ("keys",), b"keys", {"get": "a"}]):
            with self.subTest(at):
                self.assertEqual(answered(table, thing), ["bad line"])
        self.assertEqual(self.state(table), before)


class TestLook(Desk):
    def test_a_rest_is_done_first(self):
        table = Table(Disk(64))
        for turn in range(5):
            answered(table, f"put key{turn} value {turn}")
        self.assertNotEqual(table.store.disk.rows(), [])
        self.assertEqual(answered(table, "look"), ["good"])
        self.assertEqual(table.store.disk.rows(), [])
        writes = table.store.disk.writes()
        self.assertEqual(answered(table, "look"), ["good"])
        self.assertEqual(table.store.disk.writes(), writes)

    def test_faults(self):
        disk = Disk(64)
        table = Table(disk)
        for turn in range(9):
            table.put(f"the key {turn}", "v" * (turn * 10))
        table.rest()
        for number, page in ((3, ("rest", "r", 3)), (5, ("free", 0)), (len(disk.pages()), ("head", 1, 1, 1, 1))):
            disk.write(number, page_text(page, 64))
            told = [f"{each} {word}" for each, word in faults(disk.pages())]
            self.assertNotEqual(told, [])
            self.assertEqual(answered(table, "look"), told)
            self.assertEqual(disk.rows(), [])

    def test_one_fault_by_its_words(self):
        disk = Disk(64)
        table = Table(disk)
        table.put("a", "b")
        table.rest()
        disk.write(2, page_text(("free", 0), 64))
        self.assertEqual(answered(table, "look"), ["2 lost"])
        disk.write(0, page_text(("head", 1, 1, 7, 0), 64))
        self.assertEqual(answered(table, "look"), ["0 many", "2 lost"])


LINES = (
    "put a one",
    "put b " + "v" * 100,
    "begin",
    "put c three",
    "take a",
    "put twelve_signs " + "w" * 70,
    "keep",
    "no line",
    "rest",
    "begin",
    "put d gone",
    "undo",
    "take b",
    "put e " + "x" * 9,
    "look",
    "begin",
    "put left open",
)


class TestPlayed(Desk):
    def test_the_same_answers_list_by_list(self):
        lines = list(LINES) + ["keys", "many", "get c", "get ", None, 7, "begin", "keep", "keep"]
        before = list(lines)
        disk = Disk(64)
        answers = played(disk, lines)
        self.assertEqual(lines, before)
        table = Table(Disk(64))
        self.assertEqual(answers, [answered(table, line) for line in lines])
        self.assertEqual(answers[:3], [["done"]] * 3)
        self.assertEqual(answers[7], ["bad line"])
        self.assertEqual(answers[17:20], [["c", "e", "left", "twelve_signs"], ["4"], ["three"]])
        refused = ["bad key", "bad line", "bad line", "in bundle", "done", "no bundle"]
        self.assertEqual(answers[20:], [[each] for each in refused])

    def test_no_lines(self):
        disk = Disk(64)
        self.assertEqual(played(disk, []), [])
        self.assertEqual(len(disk.pages()), 2)

    def test_plays_one_behind_the_other(self):
        disk = Disk(100)
        played(disk, LINES)
        # What the bundle that was left open did is gone.
        self.assertEqual(played(disk, ["keys", "keep"]), [["c", "e", "twelve_signs"], ["no bundle"]])
        self.assertEqual(played(disk, ["get c", "begin", "take c"]), [["three"], ["done"], ["done"]])
        self.assertEqual(played(disk, ["get c", "look"]), [["three"], ["good"]])

    def test_told_lists_may_be_changed(self):
        disk = Disk(64)
        answers = played(disk, ["put a b", "keys", "keys"])
        answers[1].append("more")
        answers.append([])
        self.assertEqual(answers[2], ["a"])
        self.assertEqual(played(disk, ["keys"]), [["a"]])

    def test_power_gone_goes_on_out_of_both(self):
        for line in ("put a b", "take old", "rest", "look"):
            disk = Disk(64)
            table = Table(disk)
            table.put("old", "value")
            disk.fall(1, 3)
            with self.subTest(line):
                assert_refused(self, "PowerGone", answered, table, line)
        disk = Disk(64)
        disk.fall(9, 0)
        assert_refused(self, "PowerGone", played, disk, ["put a b"] * 9)
        # A disk that is off: coming up is refused already.
        assert_refused(self, "PowerGone", played, disk, [])


class TestFalls(Desk):
    def kept_behind(self, start, lines):
        """What a table that a disk comes up to has behind each number of lines, as kept: a list of dicts."""
        disk = copy.deepcopy(start)
        table = Table(disk)
        told = [self.told(table)]
        for line in lines:
            answered(table, line)
            told.append(told[-1] if table.is_open() else self.told(table))
        return told

    def told(self, table):
        return dict([(key, table.get(key)) for key in table.all_keys()])

    def one_fall(self, start, turn, cut, allowed):
        """Tells what the next play tells behind a fall, or None where the power didn't go."""
        disk = copy.deepcopy(start)
        disk.fall(turn, cut)
        try:
            played(disk, LINES)
            return None
        except PowerGone:
            disk.up()
        answers = played(disk, ["keys", "look"])
        self.assertEqual(answers[1], ["good"])
        keys = [] if answers[0] == ["none"] else answers[0]
        told = dict([(key, played(disk, [f"get {key}"])[0][0]) for key in keys])
        self.assertIn(told, allowed)
        return disk

    def test_the_power_goes_at_any_write_of_each_play(self):
        for size, cuts in ((64, (0, 40, 500)), (128, (70,))):
            first = Disk(size)
            second = Disk(size)
            played(second, LINES[:9])
            for start in (first, second):
                allowed = self.kept_behind(start, LINES) + [{}] * (start is first)
                for cut in cuts:
                    turn = 1
                    disk = self.one_fall(start, turn, cut, allowed)
                    while disk is not None:
                        if turn % 9 == 0:
                            self.fall_again(disk, turn)
                        turn = turn + 1
                        disk = self.one_fall(start, turn, cut, allowed)
                    self.assertGreater(turn, 30)

    def fall_again(self, disk, turn):
        """The power goes in the next play, too."""
        allowed = self.kept_behind(disk, LINES)
        for again in (1, 2, 3 + turn % 7):
            self.one_fall(disk, again, turn, allowed)


if __name__ == "__main__":
    unittest.main()
