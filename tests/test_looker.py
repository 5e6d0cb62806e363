import random
import unittest

from leafhouse.disk import Disk
from leafhouse.errors import BadPage
from leafhouse.looker import faults
from leafhouse.pages import body_of, is_page, page_of, page_text
from leafhouse.table import Table
from tests.helper import ALL_SIGNS, assert_refused, leaf_by_hand, refusal, text_by_hand, things_but, two

EIGHT = "12345678"
# A tree three deep, of pages of 64 signs, with rests and two free pages.
GOOD = (
    ("head", 1, 3, 8, 11),
    ("fork", ("m0000000",), (2, 3)),
    ("fork", ("f0000000",), (4, 5)),
    ("fork", ("s0000000",), (6, 7)),
    ("leaf", (("a1", ("in", EIGHT)), ("a2", ("out", 60, 8)))),
    ("leaf", (("f1", ("in", EIGHT)), ("f2", ("in", "")))),
    ("leaf", (("m1", ("in", EIGHT)), ("m2", ("out", 9, 10)))),
    ("leaf", (("s1", ("in", EIGHT)), ("s2", ("in", "")))),
    ("rest", "r" * 57, 9),
    ("rest", "r" * 3, 0),
    ("rest", "r" * 9, 0),
    ("free", 12),
    ("free", 0),
)


def texts_of(pages, size=64):
    return [page_text(page, size) for page in pages]


def good_but(changes, more=()):
    """The texts of the good pages, with others in some places and more behind."""
    pages = list(GOOD)
    for number, page in changes.items():
        pages[number] = page
    return texts_of(pages + list(more))


def leaf(*rows):
    return ("leaf", tuple(rows))


class TestOneFault(unittest.TestCase):
    def assert_told(self, told, texts):
        before = list(texts)
        self.assertEqual(faults(texts), told)
        self.assertEqual(texts, before)
        self.assertEqual(faults(texts), told)

    def assert_all_told(self, cases):
        for name, (told, changes) in cases.items():
            with self.subTest(name):
                self.assert_told(told, good_but(changes))

    def test_none(self):
        self.assert_told([], good_but({}))
        self.assert_told([], texts_of([("head", 1, 1, 0, 0), ("leaf", ())], 200))

    def test_a_sign_other(self):
        for number in range(len(GOOD)):
            for place in (0, 1, 2, 3, 4, 30, 61, 62, 63):
                texts = good_but({})
                text = texts[number]
                texts[number] = text[:place] + ("x" if text[place] != "x" else "y") + text[place + 1 :]
                with self.subTest(number=number, place=place):
                    self.assert_told([(number, "text")], texts)

    def test_a_text_cut_short_or_of_another_size_or_none(self):
        for number in range(1, len(GOOD)):
            for text in ("", " " * 64, page_text(GOOD[number], 65), page_text(GOOD[number], 64)[:-1], "\n" * 64):
                texts = good_but({})
                texts[number] = text
                with self.subTest(number=number, text=text):
                    self.assert_told([(number, "text")], texts)

    def test_the_first_one_of_another_size(self):
        others = [(number, "text") for number in range(1, len(GOOD))]
        none = [(0, "text")]
        for text, told in (("", none), (page_text(GOOD[0], 64)[:-1], none), (page_text(GOOD[0], 65), [])):
            texts = good_but({})
            texts[0] = text
            self.assert_told(told + others, texts)
        # Of the same size, but no page's text.
        for text in (" " * 64, "x" * 64):
            texts = good_but({})
            texts[0] = text
            self.assert_told([(0, "text")], texts)

    def test_a_page_of_another_kind(self):
        others = {
            "head": ("head", 1, 1, 0, 0),
            "leaf": leaf_by_hand(("x", EIGHT)),
            "fork": ("fork", ("x",), (1, 2)),
            "rest": ("rest", "x" * 20, 0),
            "free": ("free", 0),
        }
        for number in range(1, len(GOOD)):
            for kind, page in others.items():
                due = ("leaf", "fork") if number < 8 else (GOOD[number][0],)
                if kind not in due:
                    with self.subTest(number=number, kind=kind):
                        self.assert_told([(number, "kind")], good_but({number: page}))
        for kind, page in others.items():
            if kind != "head":
                with self.subTest(kind):
                    self.assert_told([(0, "kind")], good_but({0: page}))

    def test_a_head_elsewhere_that_nothing_leads_to(self):
        self.assert_told([(13, "kind")], good_but({}, [GOOD[0]]))
        self.assert_told([(13, "kind"), (15, "kind")], good_but({}, [GOOD[0], ("free", 0), ("head", 0, 0, 0, 0)]))

    def test_a_head_whose_top_is_nought(self):
        self.assert_told([(0, "kind")], good_but({0: ("head", 0, 3, 8, 11)}))
        # The free ones are gone through all the same.
        head = ("head", 0, 0, 0, 11)
        self.assert_told([(0, "kind"), (12, "kind")], good_but({0: head, 12: leaf()}))
        self.assert_told([(0, "kind"), (11, "twice")], good_but({0: head, 12: ("free", 11)}))
        self.assert_told([(0, "kind"), (77, "text")], good_but({0: head, 12: ("free", 77)}))
        self.assert_told([(0, "kind")], good_but({0: ("head", 0, 0, 0, 0)}))

    def test_a_page_come_to_twice(self):
        self.assert_all_told(
            {
                "a kid": ([(6, "twice")], {3: ("fork", ("s0000000",), (6, 6))}),
                "a kid of another fork": ([(5, "twice")], {3: ("fork", ("s0000000",), (5, 7))}),
                "the top": ([(1, "twice")], {3: ("fork", ("s0000000",), (6, 1))}),
                "a fork above": ([(2, "twice")], {2: ("fork", ("f0000000",), (4, 2))}),
                "a rest of another cell": ([(9, "twice")], {10: ("rest", "r" * 9, 9)}),
                "a first rest": ([(8, "twice")], {6: leaf(("m1", ("in", EIGHT)), ("m2", ("out", 9, 8)))}),
                "rests in a ring": ([(8, "twice")], {9: ("rest", "r" * 3, 8)}),
                "a rest that leads to itself": ([(10, "twice")], {10: ("rest", "r" * 9, 10)}),
                "free ones in a ring": ([(11, "twice")], {12: ("free", 11)}),
                "a free one that leads to itself": ([(12, "twice")], {12: ("free", 12)}),
            }
        )

    def test_order(self):
        def with_key(number, key):
            rows = dict(GOOD[number][1])
            rows[key] = rows.pop(max(rows) if key > "f0000000" else min(rows))
            return ("leaf", tuple([(each, rows[each]) for each in sorted(rows)]))

        self.assert_all_told(
            {
                "at the key behind": ([(4, "order")], {4: with_key(4, "f0000000")}),
                "beyond the key behind": ([(4, "order")], {4: with_key(4, "z")}),
                "just less than the key behind": ([], {4: with_key(4, "ezzz")}),
                "less than the key ahead": ([(5, "order")], {5: with_key(5, "ezzz")}),
                "at the key ahead": ([], {5: with_key(5, "f0000000")}),
                "at the key that comes from above": ([(5, "order")], {5: with_key(5, "m0000000")}),
                "beyond the key that comes from above": ([(5, "order")], {5: with_key(5, "n")}),
                "less than the key that comes from above": ([(6, "order")], {6: with_key(6, "a")}),
                "the last kid of all": ([], {7: with_key(7, "~~~")}),
                "the first kid of all": ([], {4: with_key(4, " ")}),
                "a fork, behind": ([(2, "order"), (5, "order")], {2: ("fork", ("n0000000",), (4, 5))}),
                "a fork, at the key": ([(2, "order"), (5, "order")], {2: ("fork", ("m0000000",), (4, 5))}),
                "a fork, ahead": ([(3, "order"), (6, "order")], {3: ("fork", ("a0000000",), (6, 7))}),
                "a fork, at the key ahead": ([(6, "order")], {3: ("fork", ("m0000000",), (6, 7))}),
                "kids the other way round": ([(6, "order"), (7, "order")], {3: ("fork", ("s0000000",), (7, 6))}),
            }
        )

    def test_a_kid_amid_has_the_bounds_of_the_fork_right_above(self):
        # The fork's own keys lie beyond its bounds, but not those of the kid between them.
        fork = ("fork", ("n0000000", "p0000000"), (4, 13, 5))
        more = [leaf_by_hand(("n1", EIGHT))]
        told = [(2, "order"), (5, "order")]
        self.assert_told(told, good_but({0: ("head", 1, 3, 9, 11), 2: fork}, more))

    def test_depth(self):
        leaves = [(number, "depth") for number in (4, 5, 6, 7)]
        self.assert_all_told(
            {
                "one more": (leaves, {0: ("head", 1, 4, 8, 11)}),
                "one less": ([(2, "depth"), (3, "depth")] + leaves, {0: ("head", 1, 2, 8, 11)}),
                "one": ([(1, "depth"), (2, "depth"), (3, "depth")] + leaves, {0: ("head", 1, 1, 8, 11)}),
                "none": ([(1, "depth"), (2, "depth"), (3, "depth")] + leaves, {0: ("head", 1, 0, 8, 11)}),
            }
        )
        self.assert_told([(1, "depth")], texts_of([("head", 1, 2, 0, 0), leaf()]))
        self.assert_told([(1, "depth")], texts_of([("head", 1, 0, 0, 0), leaf()]))
        # One leaf right beneath the top: what was there is lost.
        told = [(0, "many"), (3, "lost"), (6, "depth"), (7, "lost")]
        self.assert_told(told, good_but({1: ("fork", ("m0000000",), (2, 6))}))
        # One fork deeper than all others.
        deep = ("fork", ("s5000000",), (7, 14))
        more = [deep, leaf_by_hand(("s6", EIGHT))]
        told = [(7, "depth"), (13, "depth"), (14, "depth")]
        texts = good_but({0: ("head", 1, 3, 9, 11), 3: ("fork", ("s0000000",), (6, 13))}, more)
        self.assert_told(told, texts)

    def test_full(self):
        a2 = ("a2", ("out", 60, 8))
        self.assert_all_told(
            {
                "a short leaf": ([(7, "full")], {0: ("head", 1, 3, 7, 11), 7: leaf_by_hand(("s1", ""))}),
                "an empty leaf": ([(7, "full")], {0: ("head", 1, 3, 6, 11), 7: leaf()}),
                "one sign too short": ([(7, "full")], {0: ("head", 1, 3, 7, 11), 7: leaf_by_hand(("s1", "1234567"))}),
                "just as long": ([], {0: ("head", 1, 3, 7, 11), 7: leaf_by_hand(("s1", EIGHT))}),
                "a short fork": ([(3, "full")], {3: ("fork", ("s000000",), (6, 7))}),
                "a cell that is too long": ([(4, "full")], {4: leaf(("a1", ("in", EIGHT + "9")), a2)}),
                "a value that is too short for rests": (
                    [(6, "full")],
                    {6: leaf(("m1", ("in", EIGHT)), ("m2", ("out", 8, 10))), 10: ("rest", "r" * 8, 0)},
                ),
                "and rests that aren't so": (
                    [(6, "full")],
                    {6: leaf(("m1", ("in", EIGHT)), ("m2", ("out", 8, 10)))},
                ),
            }
        )

    def test_full_of_the_top(self):
        self.assert_told([], texts_of([("head", 1, 1, 1, 0), leaf_by_hand(("a", ""))]))
        one_kid = [("head", 1, 2, 2, 0), ("fork", (), (2,)), leaf_by_hand(("a", EIGHT), ("b", ""))]
        self.assert_told([(1, "full")], texts_of(one_kid))
        pages = [("head", 1, 2, 4, 0), ("fork", ("b",), (2, 3)), leaf_by_hand(("a", EIGHT), ("aa", ""))]
        self.assert_told([], texts_of(pages + [leaf_by_hand(("b", EIGHT), ("bb", ""))]))
        self.assert_told([(1, "full")], texts_of([("head", 1, 1, 1, 0), leaf_by_hand(("a", "123456789"))]))
        # The same in larger pages is as it should be.
        self.assert_told([], texts_of([("head", 1, 1, 1, 0), leaf_by_hand(("a", "123456789"))], 72))
        self.assert_told([(1, "full")], texts_of([("head", 1, 1, 1, 0), leaf_by_hand(("a", "1234567890"))], 79))
        self.assert_told([], texts_of([("head", 1, 1, 1, 0), leaf_by_hand(("a", "1234567890"))], 80))

    def test_rests(self):
        def long(number):
            return {4: leaf(("a1", ("in", EIGHT)), ("a2", ("out", number, 8)))}

        self.assert_all_told(
            {
                "a length one more": ([(4, "rest")], long(61)),
                "a length one less": ([(4, "rest")], long(59)),
                "a length of one rest": ([(4, "rest")], long(57)),
                "a length of three rests": ([(4, "rest")], long(115)),
                "a first rest that isn't filled": ([(4, "rest")], {8: ("rest", "r" * 56, 9), 9: ("rest", "r" * 4, 0)}),
                "a last rest too long": ([(4, "rest")], {9: ("rest", "r" * 4, 0)}),
                "a last rest too short": ([(4, "rest")], {9: ("rest", "r" * 2, 0)}),
                "one that is too long alone": ([(6, "rest")], {10: ("rest", "r" * 10, 0)}),
            }
        )

    def test_a_rest_more_or_less(self):
        self.assert_told([(4, "rest")], good_but({9: ("rest", "r" * 3, 13)}, [("rest", "r", 0)]))
        self.assert_told([(4, "rest"), (9, "lost")], good_but({8: ("rest", "r" * 57, 0)}))

    def test_lost(self):
        for page in (leaf(), ("fork", ("a",), (1, 2)), ("rest", "r", 4), ("free", 12)):
            self.assert_told([(13, "lost")], good_but({}, [page]))
            self.assert_told([(13, "lost"), (14, "lost")], good_but({}, [page, page]))
        self.assert_told([(11, "lost"), (12, "lost")], good_but({0: ("head", 1, 3, 8, 0)}))
        self.assert_told([(12, "lost")], good_but({11: ("free", 0)}))

    def test_many(self):
        for many in (7, 9, 0, 4095):
            self.assert_told([(0, "many")], good_but({0: ("head", 1, 3, many, 11)}))
        # A key that stands twice counts twice.
        rows = leaf_by_hand(("m1", EIGHT), ("s1", EIGHT))
        self.assert_told([(6, "order"), (10, "lost")], good_but({6: rows}))

    def test_pages_that_are_not_there(self):
        self.assert_all_told(
            {
                "the top": ([(13, "text")], {0: ("head", 13, 3, 8, 11)}),
                "a kid": ([(4095, "text")], {3: ("fork", ("s0000000",), (6, 4095))}),
                "a first rest": ([(13, "text")], {6: leaf(("m1", ("in", EIGHT)), ("m2", ("out", 9, 13)))}),
                "a rest": ([(99, "text")], {8: ("rest", "r" * 57, 99)}),
                "the first free one": ([(77, "text")], {0: ("head", 1, 3, 8, 77)}),
                "a free one": ([(77, "text")], {12: ("free", 77)}),
                "several": ([(20, "text"), (30, "text")], {12: ("free", 30), 9: ("rest", "r" * 3, 20)}),
                "one from several": ([(30, "text")], {12: ("free", 30), 9: ("rest", "r" * 3, 30)}),
            }
        )

    def test_no_pages(self):
        self.assert_told([(0, "text")], [])


class TestSeveralFaults(unittest.TestCase):
    def test_the_first_word_of_each_page(self):
        # A leaf that is out of order, too deep, too short and has wrong rests.
        texts = good_but({0: ("head", 1, 4, 8, 11), 4: leaf(("z", ("out", 61, 8)))})
        self.assertEqual(faults(texts), [(0, "many")] + [(4, "order")] + [(number, "depth") for number in (5, 6, 7)])
        texts = good_but({0: ("head", 1, 4, 7, 11), 4: leaf(("a", ("out", 61, 8)))})
        self.assertEqual(faults(texts), [(number, "depth") for number in (4, 5, 6, 7)])
        texts = good_but({0: ("head", 1, 3, 7, 11), 4: leaf(("a", ("out", 61, 8)))})
        self.assertEqual(faults(texts), [(4, "full")])
        texts = good_but({4: leaf(("a", ("in", EIGHT)), ("b", ("out", 61, 8)))})
        self.assertEqual(faults(texts), [(4, "rest")])

    def test_lost_and_many_are_not_told_beside_text_kind_and_twice(self):
        off = ("head", 1, 3, 5, 11)
        more = [("rest", "lost", 0)]
        self.assertEqual(faults(good_but({0: off}, more)), [(0, "many"), (13, "lost")])
        self.assertEqual(faults(good_but({0: off, 9: ("free", 0)}, more)), [(9, "kind")])
        self.assertEqual(faults(good_but({0: off, 12: ("free", 12)}, more)), [(12, "twice")])
        self.assertEqual(faults(good_but({0: off, 12: ("free", 99)}, more)), [(99, "text")])
        self.assertEqual(faults(good_but({0: off}, more) + ["no text"]), [(14, "text")])
        # But the others are.
        texts = good_but({0: off, 7: leaf_by_hand(("s1", "")), 5: leaf_by_hand(("z", EIGHT)), 12: ("free", 12)}, more)
        self.assertEqual(faults(texts), [(5, "order"), (7, "full"), (12, "twice")])

    def test_kind_at_one_coming_and_gone_on_from_at_another(self):
        # A cell leads to a leaf that a fork leads to later: what stands beneath it is come to all the same.
        a2 = leaf(("a1", ("in", EIGHT)), ("a2", ("out", 60, 6)))
        self.assertEqual(faults(good_but({4: a2})), [(6, "kind")])
        self.assertEqual(faults(good_but({4: a2, 10: ("rest", "r" * 9, 99)})), [(6, "kind"), (99, "text")])
        # And the other way round: it was gone on from before.
        m2 = leaf(("m1", ("in", EIGHT)), ("m2", ("out", 9, 4)))
        self.assertEqual(faults(good_but({6: m2, 9: ("rest", "r" * 3, 99)})), [(4, "kind"), (99, "text")])
        # Kind goes ahead of twice, whichever was first.
        fork = ("fork", ("s0000000",), (4, 7))
        s2 = leaf(("s1", ("in", EIGHT)), ("s2", ("out", 9, 4)))
        self.assertEqual(faults(good_but({3: fork, 7: s2})), [(4, "kind")])
        # A free one that a rest leads to.
        self.assertEqual(faults(good_but({10: ("rest", "r" * 9, 11), 12: ("free", 50)})), [(11, "kind"), (50, "text")])

    def test_rests_that_end_at_a_page_that_is_not_gone_on_from(self):
        short = ("rest", "r" * 5, 9)
        for told, changes in (
            ([(9, "kind")], {8: short, 9: ("free", 0)}),
            ([(99, "text")], {8: ("rest", "r" * 5, 99)}),
            ([(8, "twice")], {8: ("rest", "r" * 5, 8)}),
            ([(9, "twice")], {10: ("rest", "r" * 5, 9)}),
        ):
            self.assertEqual(faults(good_but(changes)), told)
        # Of two cells of a leaf the other one's is told.
        rows = leaf(("a1", ("out", 61, 8)), ("a2", ("out", 20, 99)))
        self.assertEqual(faults(good_but({4: rows})), [(4, "rest"), (99, "text")])

    def test_what_is_told_later_changes_nothing_of_it(self):
        # Leaf 4 has a wrong length; its last rest is come to once more by leaf 6.
        rows = leaf(("a1", ("in", EIGHT)), ("a2", ("out", 61, 8)))
        texts = good_but({4: rows, 10: ("rest", "r" * 9, 9)})
        self.assertEqual(faults(texts), [(4, "rest"), (9, "twice")])
        # Leaf 4 is come to again later, so its first word is that one.
        texts = good_but({4: rows, 3: ("fork", ("s0000000",), (4, 7))})
        self.assertEqual(faults(texts), [(4, "twice")])

    def test_order_depth_and_full_are_those_of_the_first_time(self):
        # Fork 2 is a kid of its own beneath another bound: it is told twice alone, and its kids aren't told anew.
        fork = ("fork", ("s0000000",), (2, 7))
        self.assertEqual(faults(good_but({3: fork})), [(2, "twice")])

    def test_text_goes_ahead_of_all(self):
        texts = good_but({3: ("fork", ("s0000000",), (6, 6))})
        texts[6] = "x" * 64
        texts[2] = ""
        self.assertEqual(faults(texts), [(2, "text"), (6, "text")])


def told_by_words(texts):
    """What the document tells, once more and apart from the program: by recursion and all words of each page."""
    if not texts:
        return [(0, "text")]
    size, words, gone, counted = len(texts[0]), {}, set(), []
    order = ["text", "kind", "twice", "order", "depth", "full", "rest", "lost", "many"]

    def page_at(number):
        if number >= len(texts) or len(texts[number]) != size:
            return None
        try:
            return page_of(texts[number])
        except BadPage:
            return None

    def tell(number, word):
        words.setdefault(number, set()).add(word)

    def comes(number, *kinds):
        page = page_at(number)
        if page is None:
            tell(number, "text")
        elif page[0] not in kinds:
            tell(number, "kind")
        elif number in gone:
            tell(number, "twice")
        else:
            gone.add(number)
            return page
        return None

    def tree(number, level, low, high):
        page = comes(number, "leaf", "fork")
        if page is None:
            return
        keys = [row[0] for row in page[1]] if page[0] == "leaf" else list(page[1])
        if [key for key in keys if key < low or (high is not None and key >= high)]:
            tell(number, "order")
        if (page[0] == "leaf" and level != head[2]) or (page[0] == "fork" and level >= head[2]):
            tell(number, "depth")
        if level > 1 and len(body_of(page)) < (size - 5) // 4:
            tell(number, "full")
        if level == 1 and page[0] == "fork" and len(page[2]) == 1:
            tell(number, "full")
        if page[0] == "fork":
            for place, kid in enumerate(page[2]):
                tree(kid, level + 1, keys[place - 1] if place else low, keys[place] if place < len(keys) else high)
            return
        counted.extend(keys)
        for key, cell in page[1]:
            if (cell[0] == "in") != ((len(cell[1]) if cell[0] == "in" else cell[1]) <= size // 8):
                tell(number, "full")
            if cell[0] == "out":
                longs, after = [], cell[2]
                while after:
                    rest = comes(after, "rest")
                    if rest is None:
                        break
                    longs.append(len(rest[1]))
                    after = rest[2]
                else:
                    filled = [size - 7] * ((cell[1] - 1) // (size - 7))
                    if longs != filled + [cell[1] - sum(filled)]:
                        tell(number, "rest")

    for number, text in enumerate(texts):
        page = page_at(number)
        if page is None:
            tell(number, "text")
        elif (page[0] == "head") != (number == 0) and "head" in (page[0], "head" if number == 0 else ""):
            tell(number, "kind")
    head = page_at(0)
    if head is not None and head[0] == "head":
        if head[1] == 0:
            tell(0, "kind")
        else:
            tree(head[1], 1, "", None)
        after = head[4]
        while after:
            free = comes(after, "free")
            after = 0 if free is None else free[1]
    if not [each for told in words.values() for each in told if each in order[:3]]:
        for number in range(1, len(texts)):
            if number not in gone:
                tell(number, "lost")
        if len(counted) != head[3]:
            tell(0, "many")
    return [(number, min(words[number], key=order.index)) for number in sorted(words)]


class TestAgainstWords(unittest.TestCase):
    def pages(self, chance, size):
        table = Table(Disk(size), 40)
        table.begin()
        for turn in range(chance.choice([0, 3, 12, 30])):
            key = "".join(chance.choices("abc", k=chance.randrange(1, 13)))
            table.put(key, "v" * chance.choice([0, 8, 9, 60, 150]))
        for key in table.all_keys()[::3]:
            table.take(key)
        table.keep()
        table.rest()
        return [page_of(text) for text in table.store.disk.pages()]

    def changed(self, chance, page, many):
        """A page with something other in it."""
        number = chance.randrange(many + 1)
        if page[0] == "head":
            return page[: 1 + number % 4] + (chance.randrange(many + 1),) + page[2 + number % 4 :]
        if page[0] == "fork":
            place = chance.randrange(len(page[2]))
            if place < len(page[1]) and chance.randrange(2):
                key = chance.choice(["a", "b", "cc", "zz"])
                return ("fork", page[1][:place] + (key,) + page[1][place + 1 :], page[2])
            return ("fork", page[1], page[2][:place] + (number or 1,) + page[2][place + 1 :])
        if page[0] == "leaf" and page[1]:
            place = chance.randrange(len(page[1]))
            key, cell = page[1][place]
            key = chance.choice([key, key, "a", "bb", "cccc", "zz"])
            out = ("out", chance.randrange(1, 80), number or 1)
            cell = chance.choice([cell, ("in", "x" * chance.randrange(12)), out])
            return ("leaf", tuple(sorted(page[1][:place] + ((key, cell),) + page[1][place + 1 :])))
        if page[0] == "rest":
            return ("rest", page[1][: chance.randrange(1, 60)], chance.choice([page[2], number]))
        return ("free", number)

    def test_pages_with_faults_of_all_sorts(self):
        chance = random.Random(10)
        seen = {}
        for turn in range(600):
            size = chance.choice([64, 64, 65, 80, 200])
            pages = self.pages(chance, size) if turn % 20 == 0 else pages
            size = len(texts[0]) if turn % 20 else size
            changed = list(pages)
            for each in range(chance.choice([0, 1, 1, 2, 4])):
                place = chance.randrange(len(changed))
                new = self.changed(chance, changed[place], len(changed))
                if refusal(page_text, new, size) is None:
                    changed[place] = new
            if chance.randrange(6) == 0:
                one, other = chance.randrange(len(changed)), chance.randrange(len(changed))
                changed[one], changed[other] = changed[other], changed[one]
            if chance.randrange(8) == 0:
                changed.append(chance.choice(changed))
            if chance.randrange(8) == 0:
                changed.pop()
            if turn % 20 == 0:
                texts = texts_of(pages, size)
                self.assertEqual(faults(texts), [])
            looked = texts_of(changed, size)
            if chance.randrange(8) == 0:
                place = chance.randrange(len(looked))
                looked[place] = looked[place][:-2] + "00"
            told = faults(looked)
            self.assertEqual(told, told_by_words(looked), changed)
            for number, word in told:
                seen[word] = seen.get(word, 0) + 1
        self.assertEqual(sorted(seen), ["depth", "full", "kind", "lost", "many", "order", "rest", "text", "twice"])

    def test_the_good_ones(self):
        self.assertEqual(told_by_words(good_but({})), [])


class TestRefusals(unittest.TestCase):
    def test_anything_but_a_list_of_texts(self):
        for at, thing in enumerate(things_but(list) + [tuple(good_but({})), "".join(good_but({}))]):
            with self.subTest(at):
                assert_refused(self, "BadText", faults, thing)
        for at, thing in enumerate(things_but(str)):
            for texts in ([thing], good_but({}) + [thing], [thing] + good_but({})):
                long = len(texts)
                with self.subTest(at=at, many=long):
                    assert_refused(self, "BadText", faults, texts)
                    self.assertEqual(len(texts), long)

    def test_texts_of_whatever_signs(self):
        for text in ("\n", "\t" * 64, "\u00e9" * 64, "50\x25 " * 16, "\x00" * 200, "h08" + "\u00e9" * 61):
            self.assertEqual(faults([text]), [(0, "text")])
            self.assertEqual(faults([text, text]), [(0, "text"), (1, "text")])
            self.assertEqual(faults(good_but({}) + [text]), [(13, "text")])

    def test_told_lists_are_the_askers_own(self):
        texts = good_but({12: ("free", 12)})
        faults(texts).append((1, "text"))
        self.assertEqual(faults(texts), [(12, "twice")])


class TestDeepOnes(unittest.TestCase):
    def test_a_thousand_forks_one_beneath_the_other(self):
        pages = [("head", 1, 1200, 0, 0)] + [("fork", (), (number + 1,)) for number in range(1, 1200)] + [leaf()]
        self.assertEqual(faults(texts_of(pages)), [(number, "full") for number in range(1, 1201)])

    def test_a_thousand_rests_and_free_ones(self):
        pages = [("head", 1, 1, 1, 1000), leaf(("a", ("out", 400, 2)))]
        pages = pages + [("rest", "r" * 57, number + 1) for number in range(2, 999)] + [("rest", "r", 0)]
        pages = pages + [("free", number + 1) for number in range(1000, 2000)] + [("free", 0)]
        self.assertEqual(faults(texts_of(pages)), [(1, "rest")])


class TestTablesAtRest(unittest.TestCase):
    def test_of_sizes_full_and_loose(self):
        chance = random.Random(11)
        for size in (64, 65, 71, 72, 100, 150, 199, 200):
            table = Table(Disk(size), 8)
            self.assertEqual(faults(table.store.disk.pages()), [])
            for turn in range(40):
                key = "".join(chance.choices(ALL_SIGNS, k=chance.choice([1, 2, 12, 12])))
                table.put(key, "v" * chance.choice([0, size // 8, size // 8 + 1, size - 7, size - 6, 400]))
            table.rest()
            self.assertEqual(faults(table.store.disk.pages()), [])
            for key in table.all_keys()[::2]:
                table.take(key)
                table.put(key[:3], "")
            table.rest()
            self.assertEqual(faults(table.store.disk.pages()), [])
            for key in table.all_keys():
                table.take(key)
            table.rest()
            self.assertEqual(faults(table.store.disk.pages()), [])

    def test_behind_bundles_falls_and_each_coming_up(self):
        chance = random.Random(12)
        disk = Disk(64)
        fell = 0
        for turn in range(60):
            disk.fall(chance.randrange(1, 70), chance.randrange(80))
            error = refusal(self.run_upon, disk, chance)
            fell = fell + (0 if error is None else 1)
            disk.up()
            Table(disk)
            self.assertEqual((faults(disk.pages()), disk.rows()), ([], []))
        self.assertGreater(fell, 20)

    def run_upon(self, disk, chance):
        table = Table(disk, chance.choice([2, 8, 40]))
        for turn in range(chance.randrange(12)):
            if turn % 4 == 1:
                table.begin()
            key = "".join(chance.choices("abc", k=chance.choice([2, 3, 12])))
            table.put(key, "v" * chance.choice([0, 8, 9, 60, 200]))
            for each in table.all_keys()[chance.randrange(9) :: 9]:
                table.take(each)
            if turn % 4 == 3:
                chance.choice([table.keep, table.undo])()
        if table.is_open():
            table.keep()
        table.rest()
        self.assertEqual(faults(disk.pages()), [])


class TestHelp(unittest.TestCase):
    def test_texts_by_hand(self):
        # A page with more than the program would write in it is no page.
        body = two(1) + two(1) + two(0) + two(0)
        self.assertEqual(faults([text_by_hand("h", body), text_by_hand("l", "0")]), [])
        self.assertEqual(faults([text_by_hand("h", body + "0"), text_by_hand("l", "0")]), [(0, "text")])
        self.assertTrue(all([is_page(page) for page in GOOD]))


if __name__ == "__main__":
    unittest.main()
