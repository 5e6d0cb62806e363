import random
import unittest

from leafhouse.disk import Disk
from leafhouse.table import Table
from leafhouse.views import View
from tests.helper import ALL_SIGNS, assert_refused, pages_of, things_but, walked

NO_KEYS = ["", "a" * 13, "a\t", "\n"]


def table_of(plain, size=64, most=4):
    table = Table(Disk(size), most)
    table.begin()
    for key, value in plain.items():
        table.put(key, value)
    table.keep()
    return table


def many_values(many):
    return dict([(f"key {turn:02}", (ALL_SIGNS * 5)[turn : turn * 12]) for turn in range(many)])


class Views(unittest.TestCase):
    def assert_tells(self, view, plain, others=()):
        self.assertEqual(view.all_keys(), sorted(plain))
        self.assertEqual(view.many(), len(plain))
        for key, value in plain.items():
            self.assertEqual(view.get(key), value)
            self.assertIs(view.has(key), True)
        for key in others:
            if key not in plain:
                self.assertIs(view.has(key), False)
                self.assertEqual(assert_refused(self, "NoKey", view.get, key).key, key)


class TestReading(Views):
    def test_what_stood_through_puts_and_takes(self):
        plain = many_values(30)
        table = table_of(plain)
        view = table.view()
        for key in plain:
            table.put(key, "another value")
            table.put(key + "x", "v" * 300)
        self.assert_tells(view, plain, ["key 01x", "a"])
        for key in table.all_keys():
            table.take(key)
        self.assertEqual(table.all_keys(), [])
        self.assert_tells(view, plain, ["key 01x", "a"])
        for turn in range(40):
            table.put(f"new {turn}", "w" * 200)
        table.rest()
        self.assert_tells(view, plain, ["key 01x", "new 1"])
        self.assertEqual(table.many(), 40)

    def test_an_empty_table(self):
        table = table_of({})
        view = View(table)
        table.put("a", "b" * 400)
        self.assert_tells(view, {}, ["a"])

    def test_a_view_in_a_bundle_that_is_undone(self):
        plain = many_values(20)
        table = table_of(plain)
        ahead = table.view()
        table.begin()
        first = table.view()
        table.put("in the one", "v" * 100)
        table.take("key 03")
        inside = table.view()
        then = dict(plain)
        then["in the one"] = "v" * 100
        then.pop("key 03")
        for key in sorted(then):
            table.take(key)
        last = table.view()
        self.assert_tells(inside, then, ["key 03"])
        table.undo()
        for turn in range(2):
            self.assert_tells(ahead, plain, ["in the one"])
            self.assert_tells(first, plain, ["in the one"])
            self.assert_tells(inside, then, ["key 03"])
            self.assert_tells(last, {}, ["key 03", "in the one"])
            self.assert_tells(table.view(), plain, ["in the one"])
            table.put("key 07", "later")
            table.put("more", "m" * 400)
            plain_now = dict(plain)
            plain_now.update({"key 07": "later", "more": "m" * 400})
            self.assert_tells(table.view(), plain_now)
            table.put("key 07", plain["key 07"])
            table.take("more")

    def test_a_view_in_a_bundle_that_is_kept(self):
        plain = many_values(10)
        table = table_of(plain)
        table.begin()
        table.put("key 04", "w" * 99)
        view = table.view()
        table.put("key 05", "w")
        table.keep()
        then = dict(plain)
        then["key 04"] = "w" * 99
        self.assert_tells(view, then)
        table.rest()
        table.take("key 04")
        self.assert_tells(view, then)

    def test_pages_used_anew(self):
        plain = many_values(20)
        table = table_of(plain, most=2)
        view = table.view()
        for key in plain:
            table.take(key)
        for key in reversed(plain):
            table.put(key, "other" * 20)
        self.assertTrue(walked(self, table.store).values)
        self.assert_tells(view, plain)

    def test_a_view_changes_nothing(self):
        table = table_of(many_values(20))
        disk = table.store.disk
        table.get("key 11")
        before = (pages_of(table.store), disk.writes(), disk.rows(), table.touched())
        view = table.view()
        view.all_keys().clear()
        view.get("key 09")
        view.many()
        view.has("key 10")
        assert_refused(self, "NoKey", view.get, "none")
        assert_refused(self, "BadKey", view.get, "")
        view.close()
        self.assertEqual((pages_of(table.store), disk.writes(), disk.rows(), table.touched()), before)

    def test_several_held_against_dicts(self):
        chance = random.Random(9)
        for size, most in ((64, 2), (64, 40), (150, 5)):
            table = Table(Disk(size), most)
            plain, kept, views = {}, None, []
            for turn in range(240):
                if turn % 12 == 3:
                    kept = dict(plain)
                    table.begin()
                if turn % 12 == 8:
                    if chance.randrange(2):
                        table.undo()
                        plain = kept
                    else:
                        table.keep()
                if turn % 36 == 1:
                    table.rest()
                key = "".join(chance.choices("abc", k=chance.randrange(1, 4)))
                if key in plain and chance.randrange(2):
                    table.take(key)
                    plain.pop(key)
                else:
                    plain[key] = "".join(chance.choices("xyz", k=chance.choice([0, 3, 8, 9, 60, 200])))
                    table.put(key, plain[key])
                if chance.randrange(8) == 0:
                    views.append((table.view(), dict(plain)))
                if len(views) > 4:
                    view, then = views.pop(chance.randrange(5))
                    self.assert_tells(view, then, ["a", "ab", "cc"])
                    view.close()
                for view, then in views[:: 1 if turn % 20 == 0 else 3]:
                    self.assert_tells(view, then, ["a", "b", "cab"])


class TestClosing(Views):
    def test_closed(self):
        table = table_of({"a": "b"})
        view, other = table.view(), table.view()
        self.assertIsNone(view.close())
        for turn in range(2):
            assert_refused(self, "Closed", view.all_keys)
            assert_refused(self, "Closed", view.many)
            for thing in ["a", "none"] + NO_KEYS + things_but(str):
                assert_refused(self, "Closed", view.get, thing)
                assert_refused(self, "Closed", view.has, thing)
            self.assertIsNone(view.close())
            table.put("a", "c")
        self.assert_tells(other, {"a": "b"})
        self.assertEqual(table.get("a"), "c")
        self.assertIsNone(other.close())
        self.assertIsNone(other.close())

    def test_a_closed_view_is_told_nothing_more(self):
        table = table_of({"a": "b"})
        views = [table.view() for turn in range(3)]
        self.assertEqual(len(table.store.watchers), 3)
        views[1].close()
        views[1].close()
        self.assertEqual(len(table.store.watchers), 2)
        for view in views:
            view.close()
        self.assertEqual(table.store.watchers, [])

    def test_what_is_no_key(self):
        table = table_of(many_values(12))
        view = table.view()
        table.put("more", "v")
        for at, thing in enumerate(NO_KEYS + things_but(str)):
            with self.subTest(at):
                assert_refused(self, "BadKey", view.get, thing)
                assert_refused(self, "BadKey", view.has, thing)
        self.assert_tells(view, many_values(12), ["more"])

    def test_told_lists_are_the_askers_own(self):
        view = table_of({"a": "", "b": ""}).view()
        view.all_keys().append("c")
        self.assertEqual(view.all_keys(), ["a", "b"])


if __name__ == "__main__":
    unittest.main()
