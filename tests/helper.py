"""What the tests share: things of many kinds, texts made by hand, and how a refusal is looked at."""

from leafhouse import errors
from leafhouse.pages import page_of

# The signs of texts: from the blank to ~ but the percent sign.
ALL_SIGNS = "".join([chr(code) for code in range(32, 127) if code != 37])
SIXTY_FOUR = "0123456789abcdefghijklmnopqrstuvwxyzABCDEFGHIJKLMNOPQRSTUVWXYZ+-"
NAMES = (
    "BadNumber",
    "BadText",
    "BadSize",
    "BadKey",
    "BadValue",
    "BadPage",
    "NoKey",
    "InBundle",
    "NoBundle",
    "PowerGone",
    "Closed",
    "BadLine",
)


class Unshown:
    """A thing that can be neither shown, compared nor hashed."""

    def __repr__(self):
        raise RuntimeError("not to be shown")

    def __eq__(self, other):
        raise RuntimeError("not to be compared")

    def __bool__(self):
        raise RuntimeError("neither true nor false")

    __hash__ = None


def things_but(*kinds):
    """Things of many kinds, new ones each time, without those of the kinds told."""
    things = [
        None,
        True,
        False,
        0,
        1,
        2,
        -1,
        10**5000,
        -(10**5000),
        1.0,
        2.5,
        float("nan"),
        1j,
        "",
        "0",
        "a text",
        b"",
        b"0",
        bytearray(b"0"),
        [],
        [0],
        ["a"],
        (),
        (1,),
        ("a", "b"),
        {},
        {"a": "b"},
        {1: 2},
        set(),
        {"a"},
        frozenset("a"),
        range(2),
        object(),
        Unshown(),
        int,
        str,
        len,
        iter("a"),
    ]
    return [thing for thing in things if type(thing) not in kinds]


def refusal(do, *given):
    """The error by which a call is refused, or None."""
    try:
        do(*given)
    except errors.TableError as error:
        return error
    return None


def assert_refused(case, name, do, *given):
    """A call is refused by the class of that name and by no other one of the twelve."""
    error = refusal(do, *given)
    case.assertIsNotNone(error, "not refused")
    told = [each for each in NAMES if isinstance(error, getattr(errors, each))]
    case.assertEqual(told, [name])
    case.assertIsInstance(error, errors.TableError)
    case.assertIsInstance(error, ValueError)
    return error


def two(number):
    """A number by two signs, reckoned apart from the program."""
    return SIXTY_FOUR[number // 64] + SIXTY_FOUR[number % 64]


def with_check(text):
    """A text and its check, reckoned apart from the program."""
    return text + two(sum([(ord(sign) - 31) * place for place, sign in enumerate(text, start=1)]) % 4093)


def text_by_hand(letter, body, size=64):
    """A page's text, or what looks like one, from its letter and body."""
    return with_check((letter + two(len(body)) + body).ljust(size - 2, "0"))


def row_by_hand(number, text):
    return with_check(two(number) + text)


def last_row_by_hand(many):
    return with_check("k" + two(many))


def many_keys(many, long=2):
    """Rising keys, each of so many signs."""
    return tuple([str(number).rjust(long, "0") for number in range(10, 10 + many)])


def pages_on(disk):
    """The pages that the texts on a disk tell."""
    return [page_of(text) for text in disk.pages()]


def pages_of(store):
    """All pages that a store tells."""
    pages = []
    while refusal(store.page, len(pages)) is None:
        pages.append(store.page(len(pages)))
    return pages


def free_row(store):
    """The numbers of the free ones, in their order."""
    numbers = []
    number = store.head()[4]
    while number != 0:
        numbers.append(number)
        kind, number = store.page(number)
        assert kind == "free", kind
    return numbers
