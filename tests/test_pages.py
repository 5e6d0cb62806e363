import unittest

from leafhouse.pages import body_of, is_page, is_size, leads_to, page_of, page_text
from tests.helper import ALL_SIGNS, assert_refused, many_keys, text_by_hand, things_but, two, with_check

HEAD = ("head", 1, 2, 3, 4)
LEAF = ("leaf", (("a", ("in", "b")), ("b", ("out", 400, 7))))
FORK = ("fork", ("m", "mm"), (5, 6, 7))
REST = ("rest", "some text", 9)
FREE = ("free", 9)
FIVE = (HEAD, LEAF, FORK, REST, FREE)


def leaf_of(*cells):
    return ("leaf", tuple(zip(many_keys(len(cells)), cells)))


GOOD = [
    *FIVE,
    ("head", 0, 0, 0, 0),
    ("head", 4095, 4095, 4095, 4095),
    ("leaf", ()),
    ("leaf", (("a", ("in", "")),)),
    ("leaf", ((" ", ("in", "~" * 63)),)),
    ("leaf", (("twelve signs", ("in", ALL_SIGNS[:63])),)),
    ("leaf", (("A", ("in", "")), ("a", ("in", "")), ("aa", ("in", "")), ("b", ("in", "")))),
    leaf_of(("out", 1, 1), ("out", 400, 4095), ("out", 399, 1)),
    leaf_of(*[("in", "")] * 63),
    ("fork", (), (1,)),
    ("fork", (), (4095,)),
    ("fork", ("a",), (1, 1)),
    ("fork", ("twelve signs",), (4095, 1)),
    ("fork", many_keys(63), tuple(range(1, 65))),
    ("rest", "a", 0),
    ("rest", " " * 400, 4095),
    ("free", 0),
    ("free", 4095),
]
BAD = [
    ("head", -1, 0, 0, 0),
    ("head", 0, -1, 0, 0),
    ("head", 0, 0, -1, 0),
    ("head", 0, 0, 0, -1),
    ("head", 4096, 0, 0, 0),
    ("head", 0, 4096, 0, 0),
    ("head", 0, 0, 4096, 0),
    ("head", 0, 0, 0, 4096),
    ("head",),
    ("Head", 0, 0, 0, 0),
    ("h", 0, 0, 0, 0),
    ("", 0, 0, 0, 0),
    (),
    ("leaf",),
    ("leaf", (("", ("in", "")),)),
    ("leaf", (("thirteen sign", ("in", "")),)),
    ("leaf", (("a\t", ("in", "")),)),
    ("leaf", (("a", ("in", "~" * 64)),)),
    ("leaf", (("a", ("in", "b\n")),)),
    ("leaf", (("a", ("in",)),)),
    ("leaf", (("a", ("on", "")),)),
    ("leaf", (("a", ("i", "")),)),
    ("leaf", (("a", ("in", 1, 1)),)),
    ("leaf", (("a", ("out", "b")),)),
    ("leaf", (("a", ("out", 0, 1)),)),
    ("leaf", (("a", ("out", 401, 1)),)),
    ("leaf", (("a", ("out", -1, 1)),)),
    ("leaf", (("a", ("out", 1, 0)),)),
    ("leaf", (("a", ("out", 1, -1)),)),
    ("leaf", (("a", ("out", 1, 4096)),)),
    ("leaf", (("a", ()),)),
    ("leaf", ((),)),
    ("leaf", ("ab",)),
    ("leaf", "ab"),
    ("leaf", (("b", ("in", "")), ("a", ("in", "")))),
    ("leaf", (("a", ("in", "")), ("a", ("in", "")))),
    ("leaf", (("a", ("in", "")), ("c", ("in", "")), ("b", ("in", "")))),
    leaf_of(*[("in", "")] * 64),
    ("fork", (), ()),
    ("fork", (), (1, 2)),
    ("fork", (), (0,)),
    ("fork", (), (-1,)),
    ("fork", (), (4096,)),
    ("fork", ("a",), (1,)),
    ("fork", ("a",), (1, 2, 3)),
    ("fork", ("a",), (1, 0)),
    ("fork", ("",), (1, 2)),
    ("fork", ("thirteen sign",), (1, 2)),
    ("fork", ("\n",), (1, 2)),
    ("fork", ("b", "a"), (1, 2, 3)),
    ("fork", ("a", "a"), (1, 2, 3)),
    ("fork", "a", (1, 2)),
    ("fork", many_keys(63), tuple(range(1, 64))),
    ("fork", many_keys(63), tuple(range(1, 66))),
    ("fork", many_keys(64), tuple(range(1, 66))),
    ("rest", "", 0),
    ("rest", "a" * 401, 0),
    ("rest", "a\n", 0),
    ("rest", "a", -1),
    ("rest", "a", 4096),
    ("rest", 0, "a"),
    ("free", -1),
    ("free", 4096),
    ("free", "0"),
]


def replaced(thing, place, other):
    return thing[:place] + (other,) + thing[place + 1 :]


def inner(page):
    """(tuple, remake) for each tuple in a page: remake(other) is the page with another thing in its place."""
    ahead = [(page, lambda other: other)]
    while ahead:
        thing, remake = ahead.pop()
        yield thing, remake
        for place, each in enumerate(thing):
            if isinstance(each, tuple):
                ahead.append((each, lambda other, *, t=thing, p=place, r=remake: r(replaced(t, p, other))))


def own_kinds(thing):
    if type(thing) is tuple:
        return all([own_kinds(each) for each in thing])
    return type(thing) in (str, int)


class TestSizes(unittest.TestCase):
    def test_sizes(self):
        for thing, told in ((63, False), (64, True), (65, True), (199, True), (200, True), (201, False), (-64, False)):
            with self.subTest(thing):
                self.assertIs(is_size(thing), told)

    def test_other_kinds(self):
        for at, thing in enumerate(things_but(int) + [64.0, "64", [64], (64,), 10**5000, -(10**5000)]):
            with self.subTest(at):
                self.assertIs(is_size(thing), False)


class TestIsPage(unittest.TestCase):
    def test_pages(self):
        for page in GOOD:
            with self.subTest(page):
                self.assertIs(is_page(page), True)

    def test_what_is_none(self):
        for thing in BAD:
            with self.subTest(thing):
                self.assertIs(is_page(thing), False)

    def test_things_of_other_kinds(self):
        for at, thing in enumerate(things_but()):
            with self.subTest(at):
                self.assertIs(is_page(thing), False)
                self.assertIs(is_page((thing,)), False)
                self.assertIs(is_page((thing, thing)), False)

    def test_another_kind_of_thing_at_each_place(self):
        for page in FIVE:
            for part, remake in inner(page):
                for place, there in enumerate(part):
                    for at, thing in enumerate(things_but(type(there))):
                        with self.subTest(page=page, part=part, place=place, at=at):
                            self.assertIs(is_page(remake(replaced(part, place, thing))), False)

    def test_a_list_for_a_tuple(self):
        for page in FIVE:
            for part, remake in inner(page):
                with self.subTest(page=page, part=part):
                    self.assertIs(is_page(remake(list(part))), False)

    def test_an_item_more_or_less(self):
        for page in FIVE:
            for part, remake in inner(page):
                with self.subTest(page=page, part=part):
                    self.assertIs(is_page(remake(part + part[-1:])), False)
                    # A row less is a leaf still.
                    if part != LEAF[1]:
                        self.assertIs(is_page(remake(part[:-1])), False)

    def test_a_truth_for_a_number(self):
        for page in (
            ("head", True, 1, 1, 1),
            ("head", 1, 1, 1, False),
            ("free", False),
            ("rest", "a", True),
            ("fork", (), (True,)),
            leaf_of(("out", True, 1)),
            leaf_of(("out", 1, True)),
        ):
            with self.subTest(page):
                self.assertIs(is_page(page), False)


class TestBodies(unittest.TestCase):
    def test_bodies_made_by_hand(self):
        told = {
            ("head", 1, 1, 0, 0): "01010000",
            ("head", 4095, 64, 63, 200): "--100-38",
            ("leaf", ()): "0",
            ("leaf", (("a", ("in", "")),)): "11ai0",
            LEAF: "2" + "1a" + "i1b" + "1b" + "o" + "6g" + "07",
            ("leaf", (("twelve signs", ("in", "x" * 63)),)): "1" + "ctwelve signs" + "i-" + "x" * 63,
            leaf_of(*[("in", "")] * 63): "-" + "".join([f"2{number}i0" for number in range(10, 73)]),
            ("fork", (), (65,)): "0" + "11",
            FORK: "2" + "1m" + "2mm" + "05" + "06" + "07",
            ("fork", many_keys(63), (9,) * 64): "-" + "".join([f"2{n}" for n in range(10, 73)]) + "09" * 64,
            REST: "09" + "some text",
            ("rest", "0", 0): "00" + "0",
            ("rest", "~" * 400, 4095): "--" + "~" * 400,
            ("free", 0): "00",
            ("free", 4095): "--",
        }
        for page, body in told.items():
            with self.subTest(page):
                self.assertEqual(body_of(page), body)

    def test_what_is_no_page(self):
        for ask in (body_of, leads_to):
            for at, thing in enumerate(BAD + things_but()):
                with self.subTest(at=at, ask=ask):
                    self.assertIsNone(assert_refused(self, "BadPage", ask, thing).number)

    def test_where_pages_lead_to(self):
        told = (
            (("head", 0, 1, 2, 0), []),
            (("head", 3, 1, 2, 0), [3]),
            (("head", 0, 1, 2, 4), [4]),
            (("head", 4, 1, 2, 3), [4, 3]),
            (("head", 3, 1, 2, 3), [3, 3]),
            (("leaf", ()), []),
            (leaf_of(("in", "5"), ("in", "")), []),
            (leaf_of(("out", 9, 8), ("in", "5"), ("out", 7, 6), ("out", 1, 8)), [8, 6, 8]),
            (("fork", (), (5,)), [5]),
            (("fork", ("a", "b"), (7, 1, 4095)), [7, 1, 4095]),
            (("rest", "5", 0), []),
            (("rest", "5", 6), [6]),
            (("free", 0), []),
            (("free", 6), [6]),
        )
        for page, numbers in told:
            with self.subTest(page):
                self.assertEqual(leads_to(page), numbers)

    def test_a_told_list_may_be_changed(self):
        for page in (HEAD, FORK, LEAF, REST):
            with self.subTest(page):
                told = leads_to(page)
                before = list(told)
                told.append(1)
                told[0] = 4000
                self.assertEqual(leads_to(page), before)


class TestPageText(unittest.TestCase):
    def test_texts_reckoned_by_hand(self):
        # 17 * (1 + .. + 62) = 33201 for noughts alone; then e 70 - 17 = 53 at 1, 2 of length 2 * 3:
        # 33260 = 8 * 4093 + 516, 516 = 8 * 64 + 4
        self.assertEqual(page_text(("free", 0), 64), "e02" + "00" + "0" * 57 + "84")
        # h 56 at 1, 8 of length 8 * 3, a one at 5 and at 7: 33293 = 8 * 4093 + 549, 549 = 8 * 64 + 37
        self.assertEqual(page_text(("head", 1, 1, 0, 0), 64), "h08" + "01010000" + "0" * 51 + "8B")
        # l 60 at 1, 1 of length 1 * 3: 33264 = 8 * 4093 + 520, 520 = 8 * 64 + 8
        self.assertEqual(page_text(("leaf", ()), 64), "l01" + "0" + "0" * 58 + "88")

    def test_texts_made_by_hand(self):
        told = (
            (HEAD, "h", "01020304"),
            (LEAF, "l", "21ai1b1bo6g07"),
            (FORK, "f", "21m2mm050607"),
            (REST, "r", "09some text"),
            (FREE, "e", "09"),
        )
        for page, letter, body in told:
            for size in (64, 65, 100, 199, 200):
                with self.subTest(page=page, size=size):
                    self.assertEqual(page_text(page, size), text_by_hand(letter, body, size))
                    self.assertEqual(len(page_text(page, size)), size)

    def test_a_body_that_fills_the_room(self):
        for size in range(64, 201):
            with self.subTest(size):
                full = ("rest", "x" * (size - 7), 1)
                self.assertEqual(page_text(full, size), with_check("r" + two(size - 5) + "01" + "x" * (size - 7)))
                error = assert_refused(self, "BadPage", page_text, ("rest", "x" * (size - 6), 1), size)
                self.assertIsNone(error.number)

    def test_a_leaf_and_a_fork_that_fill_the_room(self):
        # A leaf: 1 + 10 * 5 and 8 in a cell; a fork with keys of four signs: 1 + 8 * 5 + 9 * 2.
        leaf = leaf_of(*[("in", "")] * 9, ("in", "abcd1234"))
        self.assertEqual(page_text(leaf, 64), text_by_hand("l", body_of(leaf)))
        longer = leaf_of(*[("in", "")] * 9, ("in", "abcd12345"))
        assert_refused(self, "BadPage", page_text, longer, 64)
        self.assertEqual(page_text(longer, 65), text_by_hand("l", body_of(longer), 65))
        fork = ("fork", many_keys(8, 4), tuple(range(1, 10)))
        self.assertEqual(page_text(fork, 64), text_by_hand("f", body_of(fork)))
        longer = ("fork", many_keys(8, 4)[:7] + ("zzzzz",), tuple(range(1, 10)))
        assert_refused(self, "BadPage", page_text, longer, 64)

    def test_sizes(self):
        for at, size in enumerate([63, 201, 0, -64, 10**5000] + things_but(int)):
            for page in FIVE:
                with self.subTest(at=at, page=page):
                    assert_refused(self, "BadSize", page_text, page, size)

    def test_no_page_ahead_of_no_size_ahead_of_too_long(self):
        for at, thing in enumerate(BAD + things_but()):
            with self.subTest(at):
                for size in (64, 63, 201, None, "64"):
                    self.assertIsNone(assert_refused(self, "BadPage", page_text, thing, size).number)
        assert_refused(self, "BadSize", page_text, ("rest", "x" * 400, 0), 201)


class TestPageOf(unittest.TestCase):
    def assert_none(self, thing):
        self.assertIsNone(assert_refused(self, "BadPage", page_of, thing).number)

    def test_the_page_back(self):
        for page in GOOD:
            for size in (64, 65, 77, 130, 200):
                if len(body_of(page)) <= size - 5:
                    with self.subTest(page=page, size=size):
                        told = page_of(page_text(page, size))
                        self.assertEqual(told, page)
                        self.assertTrue(own_kinds(told))

    def test_a_page_back_from_a_text_made_by_hand(self):
        self.assertEqual(page_of(text_by_hand("l", "21ai1b1bo6g07")), LEAF)
        self.assertEqual(page_of(text_by_hand("r", "00" + "0" * 57)), ("rest", "0" * 57, 0))
        self.assertEqual(page_of(text_by_hand("r", "00" + "0" * 5)), ("rest", "0" * 5, 0))
        self.assertEqual(page_of(text_by_hand("f", "1200" + "0102")), ("fork", ("00",), (1, 2)))

    def test_one_sign_another_one(self):
        for page in FIVE:
            text = page_text(page, 64)
            for place in range(64):
                for sign in "0a ~-" + chr(ord(text[place]) + 1):
                    other = text[:place] + sign + text[place + 1 :]
                    if other != text:
                        with self.subTest(page=page, place=place, sign=sign):
                            self.assert_none(other)

    def test_neighbours_exchanged(self):
        for page in FIVE:
            text = page_text(page, 64)
            for place in range(63):
                other = text[:place] + text[place + 1] + text[place] + text[place + 2 :]
                if other != text:
                    with self.subTest(page=page, place=place):
                        self.assert_none(other)

    def test_a_sign_more_or_less(self):
        for page in FIVE:
            for size in (64, 65, 200):
                text = page_text(page, size)
                for sign in "0 a":
                    with self.subTest(page=page, size=size, sign=sign):
                        self.assert_none(text + sign)
                        self.assert_none(sign + text)
                        self.assert_none(text[:30] + sign + text[30:])
                self.assert_none(text[:-1])
                self.assert_none(text[1:])

    def test_tabs_and_line_ends(self):
        text = page_text(REST, 64)
        for sign in "\t\n\r":
            for place in (0, 1, 3, 10, 61, 62, 63):
                with self.subTest(sign=sign, place=place):
                    self.assert_none(text[:place] + sign + text[place + 1 :])

    def test_a_right_check_of_what_is_no_pages_text(self):
        told = (
            # letters
            *[(letter, "01010000") for letter in ["x", "H", "0", " ", "i", "k"]],
            # heads
            ("h", "010100"),
            ("h", "0101000"),
            ("h", "010100000"),
            ("h", "0101000000"),
            ("h", "010100 0"),
            ("h", ""),
            # leaves: counts, lengths, cells, orders
            ("l", ""),
            ("l", "1"),
            ("l", "00"),
            ("l", " "),
            ("l", "21ai1b"),
            ("l", "01ai1b"),
            ("l", "11ai1b1bi1b"),
            ("l", "10i1b"),
            ("l", "1dthirteen signi0"),
            ("l", "11ai2b"),
            ("l", "11ai0b"),
            ("l", "11ai"),
            ("l", "11a"),
            ("l", "11ax1b"),
            ("l", "11aI1b"),
            ("l", "11ao0007"),
            ("l", "11ao6h07"),
            ("l", "11ao0100"),
            ("l", "11ao010"),
            ("l", "11ao01"),
            ("l", "11ao01071"),
            ("l", "11ao01 7"),
            ("l", "21bi01ai0"),
            ("l", "21ai01ai0"),
            # forks: a kid too few, too many or nought, keys that don't rise or are no keys
            ("f", ""),
            ("f", "0"),
            ("f", "00"),
            ("f", "000"),
            ("f", "001" + "02"),
            ("f", "11a" + "01"),
            ("f", "11a" + "01" + "0"),
            ("f", "11a" + "01" + "02" + "03"),
            ("f", "11a" + "01" + "00"),
            ("f", "10" + "01" + "02"),
            ("f", "1dthirteen sign" + "01" + "02"),
            ("f", "21b1a" + "01" + "02" + "03"),
            ("f", "21a1a" + "01" + "02" + "03"),
            ("f", "31a1b" + "01" + "02" + "03"),
            # rests and free ones
            ("r", "00"),
            ("r", "0"),
            ("r", ""),
            ("r", " 0text"),
            ("e", ""),
            ("e", "0"),
            ("e", "000"),
            ("e", "0 "),
        )
        for letter, body in told:
            for size in (64, 200):
                with self.subTest(letter=letter, body=body, size=size):
                    self.assert_none(text_by_hand(letter, body, size))

    def test_lengths_that_do_not_fit(self):
        for long in (0, 1, 7, 9, 59, 60, 61, 64, 4095):
            with self.subTest(long):
                self.assert_none(with_check(("h" + two(long) + "01010000").ljust(62, "0")))
        for long in ("0 ", " 8", "~8"):
            with self.subTest(long):
                self.assert_none(with_check(("h" + long + "01010000").ljust(62, "0")))
        # A rest of the room and of one or two signs more: its check would lie within it.
        self.assert_none(with_check("r" + two(60) + "00" + "0" * 57))
        self.assert_none(with_check("r" + two(61) + "00" + "0" * 57))

    def test_other_signs_than_noughts_behind_the_body(self):
        for letter, body in (("h", "01010000"), ("l", "0"), ("f", "005"), ("r", "00a"), ("e", "00")):
            text = text_by_hand(letter, body)
            for place in (3 + len(body), 40, 61):
                for sign in " 1a~":
                    with self.subTest(letter=letter, place=place, sign=sign):
                        self.assert_none(with_check(text[:place] + sign + text[place + 1 : 62]))

    def test_texts_of_other_sizes(self):
        for size in (5, 10, 40, 63, 201, 202, 400, 4000):
            with self.subTest(size):
                self.assert_none(text_by_hand("e", "00", size))
        for size in (64, 200):
            self.assertEqual(page_of(text_by_hand("e", "00", size)), ("free", 0))

    def test_things_of_other_kinds(self):
        for at, thing in enumerate(things_but() + [" " * 64, "0" * 64, list(page_text(FREE, 64))]):
            with self.subTest(at):
                self.assert_none(thing)

    def test_the_same_asked_again_tells_the_same(self):
        for page in FIVE:
            text = page_text(page, 64)
            self.assertEqual([page_of(text), page_of(text)], [page, page])
            self.assertEqual([page_text(page, 64), body_of(page)], [text, body_of(page)])


if __name__ == "__main__":
    unittest.main()
