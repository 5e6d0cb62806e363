"""What the tests share: things of many kinds, texts made by hand, and how a refusal is looked at."""

from leafhouse import errors
from leafhouse.pages import body_of, page_of

# The signs of texts: from the blank to ~ but the percent sign.
ALL_SIGNS = "".join([chr(code) for code in range(32, 127) if code != 37])
SIXTY_FOUR = "0123456789abcdefghijklmnopqrstuvwxyzABCDEFGHIJKLMNOPQRSTUVWXYZ+-"
NAMES = (
    "BadNumber",
    "BadText",
    "BadSize",
    "BadKey",
    "BadValue",
    "BadPage",
    "NoKey",
    "InBundle",
    "NoBundle",
    "PowerGone",
    "Closed",
    "BadLine",
)


class Unshown:
    """A thing that can be neither shown, compared nor hashed."""

    def __repr__(self):
        raise RuntimeError("not to be shown")

    def __eq__(self, other):
        raise RuntimeError("not to be compared")

    def __bool__(self):
        raise RuntimeError("neither true nor false")

    __hash__ = None


def things_but(*kinds):
    """Things of many kinds, new ones each time, without those of the kinds told."""
    things = [
        None,
        True,
        False,
        0,
        1,
        2,
        -1,
        10**5000,
        -(10**5000),
        1.0,
        2.5,
        float("nan"),
        1j,
        "",
        "0",
        "a text",
        b"",
        b"0",
        bytearray(b"0"),
        [],
        [0],
        ["a"],
        (),
        (1,),
        ("a", "b"),
        {},
        {"a": "b"},
        {1: 2},
        set(),
        {"a"},
        frozenset("a"),
        range(2),
        object(),
        Unshown(),
        int,
        str,
        len,
        iter("a"),
    ]
    return [thing for thing in things if type(thing) not in kinds]


def refusal(do, *given):
    """The error by which a call is refused, or None."""
    try:
        do(*given)
    except errors.TableError as error:
        return error
    return None


def assert_refused(case, name, do, *given):
    """A call is refused by the class of that name and by no other one of the twelve."""
    error = refusal(do, *given)
    case.assertIsNotNone(error, "not refused")
    told = [each for each in NAMES if isinstance(error, getattr(errors, each))]
    case.assertEqual(told, [name])
    case.assertIsInstance(error, errors.TableError)
    case.assertIsInstance(error, ValueError)
    return error


def two(number):
    """A number by two signs, reckoned apart from the program."""
    return SIXTY_FOUR[number // 64] + SIXTY_FOUR[number % 64]


def with_check(text):
    """A text and its check, reckoned apart from the program."""
    return text + two(sum([(ord(sign) - 31) * place for place, sign in enumerate(text, start=1)]) % 4093)


def text_by_hand(letter, body, size=64):
    """A page's text, or what looks like one, from its letter and body."""
    return with_check((letter + two(len(body)) + body).ljust(size - 2, "0"))


def row_by_hand(number, text):
    return with_check(two(number) + text)


def last_row_by_hand(many):
    return with_check("k" + two(many))


def many_keys(many, long=2):
    """Rising keys, each of so many signs."""
    return tuple([str(number).rjust(long, "0") for number in range(10, 10 + many)])


def pages_on(disk):
    """The pages that the texts on a disk tell."""
    return [page_of(text) for text in disk.pages()]


def pages_of(store):
    """All pages that a store tells."""
    pages = []
    while refusal(store.page, len(pages)) is None:
        pages.append(store.page(len(pages)))
    return pages


def free_row(store):
    """The numbers of the free ones, in their order."""
    numbers = []
    number = store.head()[4]
    while number != 0:
        numbers.append(number)
        kind, number = store.page(number)
        assert kind == "free", kind
    return numbers


def leaf_by_hand(*rows):
    """A leaf from rows (key, text of the cell)."""
    return ("leaf", tuple([(key, ("in", text)) for key, text in rows]))


def leaf_of_keys(text, *keys):
    """A leaf whose cells all have the same text."""
    return leaf_by_hand(*[(key, text) for key in keys])


def put_in(store, tree):
    """Puts in a tree made by hand, leaves and (keys, trees) for forks; tells its number and depth and how many keys."""
    number = store.fresh()
    if tree[0] == "leaf":
        store.put(number, tree)
        return number, 1, len(tree[1])
    told = [put_in(store, kid) for kid in tree[1]]
    store.put(number, ("fork", tree[0], tuple([each[0] for each in told])))
    return number, told[0][1] + 1, sum([each[2] for each in told])


def plant(store, tree, free=0):
    """A store's tree is one made by hand; so many pages are free beside."""
    store.begin()
    spare = [store.fresh() for turn in range(free)]
    old = store.head()[1]
    store.put_head(*put_in(store, tree))
    for number in spare + [old]:
        store.let_go(number)
    store.keep()


class Walk:
    """A walk through the whole tree that a reader tells, with all that must hold of it looked at by a test case."""

    def __init__(self, case, reader, size):
        self.case = case
        self.reader = reader
        self.size = size
        # How deep each page of the tree lies; the rests; the free ones; keys with their values.
        self.levels = {}
        self.rests = []
        self.free = []
        self.values = {}
        self.head = reader.head()
        self.depth = self.head[2]
        self.walk(self.head[1], "", None, 1)
        self.walk_free()
        case.assertEqual(list(self.values), sorted(self.values))
        case.assertEqual(self.head[3], len(self.values))

    def walk(self, number, least, beyond, level):
        page = self.reader.page(number)
        self.case.assertNotIn(number, self.levels)
        self.levels[number] = level
        self.look_at_body(page, level)
        keys = [row[0] for row in page[1]] if page[0] == "leaf" else list(page[1])
        for key in keys:
            self.case.assertTrue(least <= key and (beyond is None or key < beyond), (number, page))
        self.case.assertEqual(page[0], "leaf" if level == self.depth else "fork")
        if page[0] == "leaf":
            for key, cell in page[1]:
                self.values[key] = self.value(cell)
        else:
            bounds = [least] + keys + [beyond]
            for kid, low, high in zip(page[2], bounds[:-1], bounds[1:], strict=True):
                self.walk(kid, low, high, level + 1)

    def look_at_body(self, page, level):
        long = len(body_of(page))
        self.case.assertLessEqual(long, self.size - 5)
        if level > 1:
            self.case.assertGreaterEqual(long, (self.size - 5) // 4, page)
        elif page[0] == "fork":
            self.case.assertGreater(len(page[2]), 1)

    def value(self, cell):
        if cell[0] == "in":
            self.case.assertLessEqual(len(cell[1]), self.size // 8)
            return cell[1]
        self.case.assertGreater(cell[1], self.size // 8)
        texts = []
        number = cell[2]
        while number != 0:
            self.rests.append(number)
            kind, text, number = self.reader.page(number)
            self.case.assertEqual(kind, "rest")
            self.case.assertLessEqual(len(text), self.size - 7)
            texts.append(text)
        self.case.assertEqual({len(text) for text in texts[:-1]} - {self.size - 7}, set())
        self.case.assertEqual(len("".join(texts)), cell[1])
        return "".join(texts)

    def walk_free(self):
        number = self.head[4]
        while number != 0:
            self.free.append(number)
            self.case.assertLess(len(self.free), 5000)
            kind, number = self.reader.page(number)
            self.case.assertEqual(kind, "free")

    def assert_all_pages(self, many):
        """Each page but the head is in the tree or among the free ones, once."""
        self.case.assertEqual(sorted(list(self.levels) + self.rests + self.free), list(range(1, many)))


def walked(case, store):
    """A walk through a store's tree, of which nothing is left out; the store isn't asked for pages by it."""
    noted = dict(store.noted)
    walk = Walk(case, store, store.disk.size)
    walk.assert_all_pages(len(pages_of(store)))
    store.noted = noted
    return walk


def assert_asked_as_told(case, before, after, asked):
    """A deed between two walks asked for the head, at most four pages on each level, and rests and free ones
    that it took or let go; what was free and is so still it left alone."""
    case.assertIn(0, asked)
    for level in range(1, max(before.depth, after.depth) + 1):
        on_it = [each for each in asked if before.levels.get(each) == level or after.levels.get(each) == level]
        case.assertLessEqual(len(on_it), 4)
    both = list(before.levels) + list(after.levels)
    beside = [each for each in asked if each != 0 and each not in both]
    case.assertLessEqual(len(asked) - 1 - len(beside), 4 * max(before.depth, after.depth))
    moved = set(before.rests + before.free) ^ set(after.rests + after.free)
    turned = set(before.rests) & set(after.free) | set(before.free) & set(after.rests)
    case.assertEqual(set(beside) - moved - turned, set())
