"""Pages: how one is told, as a tuple, and how it stands in a text."""

from leafhouse.errors import BadPage, BadSize, BadText
from leafhouse.kinds import MOST_VALUE_SIGNS, is_key
from leafhouse.signs import CHECK_SIGNS, check_of, digits, is_text, is_whole, number_of

LEAST_SIZE = 64
MOST_SIZE = 200
MOST_NUMBER = 4095
MOST_ROWS = 63
MOST_CELL_SIGNS = 63
NUMBER_SIGNS = 2
# A letter, how long the body is, and the check.
SIGNS_BESIDE_BODY = 5
BODY_START = 3
LETTERS = {"head": "h", "leaf": "l", "fork": "f", "rest": "r", "free": "e"}


def is_size(thing):
    return is_whole(thing) and LEAST_SIZE <= thing <= MOST_SIZE


def room_of(size):
    return size - SIGNS_BESIDE_BODY


def is_number(thing, least=0):
    return is_whole(thing) and least <= thing <= MOST_NUMBER


def is_text_of(thing, least, most):
    return is_text(thing) and least <= len(thing) <= most


def is_tuple_of(thing, many):
    return isinstance(thing, tuple) and len(thing) == many


def word_of(thing):
    """The text that a tuple begins with, or None."""
    # Only a text is ever compared: a thing of another kind may fail at that.
    if isinstance(thing, tuple) and len(thing) > 0 and isinstance(thing[0], str):
        return thing[0]
    return None


def are_rising_keys(keys):
    if not all([is_key(key) for key in keys]):
        return False
    return all([key < after for key, after in zip(keys, keys[1:])])


def is_cell(thing):
    word = word_of(thing)
    if word == "in":
        return len(thing) == 2 and is_text_of(thing[1], 0, MOST_CELL_SIGNS)
    if word == "out":
        return len(thing) == 3 and is_whole(thing[1]) and 1 <= thing[1] <= MOST_VALUE_SIGNS and is_number(thing[2], 1)
    return False


def are_rows(thing):
    if not isinstance(thing, tuple) or len(thing) > MOST_ROWS:
        return False
    if not all([is_tuple_of(row, 2) and is_cell(row[1]) for row in thing]):
        return False
    return are_rising_keys([row[0] for row in thing])


def are_keys(thing):
    return isinstance(thing, tuple) and len(thing) <= MOST_ROWS and are_rising_keys(thing)


def are_kids(thing, many):
    return is_tuple_of(thing, many) and all([is_number(kid, 1) for kid in thing])


def is_page(thing):
    word = word_of(thing)
    if word == "head":
        return len(thing) == 5 and all([is_number(number) for number in thing[1:]])
    if word == "leaf":
        return len(thing) == 2 and are_rows(thing[1])
    if word == "fork":
        return len(thing) == 3 and are_keys(thing[1]) and are_kids(thing[2], len(thing[1]) + 1)
    if word == "rest":
        return len(thing) == 3 and is_text_of(thing[1], 1, MOST_VALUE_SIGNS) and is_number(thing[2])
    if word == "free":
        return len(thing) == 2 and is_number(thing[1])
    return False


def numbers_text(numbers):
    return "".join([digits(number, NUMBER_SIGNS) for number in numbers])


def key_text(key):
    return digits(len(key), 1) + key


def cell_text(cell):
    if cell[0] == "in":
        return "i" + digits(len(cell[1]), 1) + cell[1]
    return "o" + numbers_text(cell[1:])


def row_text(row):
    return key_text(row[0]) + cell_text(row[1])


def body_text(page):
    """The body of what is known to be a page."""
    if page[0] == "leaf":
        return digits(len(page[1]), 1) + "".join([row_text(row) for row in page[1]])
    if page[0] == "fork":
        keys = "".join([key_text(key) for key in page[1]])
        return digits(len(page[1]), 1) + keys + numbers_text(page[2])
    if page[0] == "rest":
        return numbers_text(page[2:]) + page[1]
    return numbers_text(page[1:])


def body_of(page):
    if not is_page(page):
        raise BadPage(None, "no page")
    return body_text(page)


def unchecked_text(page, body, size):
    """A page's text but for its check."""
    start = LETTERS[page[0]] + digits(len(body), NUMBER_SIGNS) + body
    return start.ljust(size - CHECK_SIGNS, "0")


def page_text(page, size):
    body = body_of(page)
    if not is_size(size):
        raise BadSize("no size from 64 to 200")
    if len(body) > room_of(size):
        raise BadPage(None, "a page that is too long for its size")
    text = unchecked_text(page, body, size)
    return text + check_of(text)


class BodyReader:
    """Takes a body apart, from its first sign on."""

    def __init__(self, body):
        self.body = body
        self.place = 0

    # Where too few signs are left fewer are told: page_of finds that out, as the page has another text then.
    def next_signs(self, many):
        start = self.place
        self.place = start + many
        return self.body[start:self.place]

    def next_number(self, many):
        return number_of(self.next_signs(many))

    def next_numbers(self, many):
        return tuple([self.next_number(NUMBER_SIGNS) for turn in range(many)])

    def next_key(self):
        return self.next_signs(self.next_number(1))

    def next_keys(self, many):
        return tuple([self.next_key() for turn in range(many)])

    def next_cell(self):
        if self.next_signs(1) == "i":
            return ("in", self.next_signs(self.next_number(1)))
        return ("out",) + self.next_numbers(2)

    def next_row(self):
        key = self.next_key()
        return (key, self.next_cell())

    def next_rows(self, many):
        return tuple([self.next_row() for turn in range(many)])


def told_page(letter, body):
    """What a letter and a body tell, perhaps no page; BadText where a number isn't one."""
    reader = BodyReader(body)
    if letter == "h":
        return ("head",) + reader.next_numbers(4)
    if letter == "l":
        return ("leaf", reader.next_rows(reader.next_number(1)))
    if letter == "f":
        keys = reader.next_keys(reader.next_number(1))
        return ("fork", keys, reader.next_numbers(len(keys) + 1))
    if letter == "r":
        after = reader.next_number(NUMBER_SIGNS)
        return ("rest", reader.next_signs(len(body) - NUMBER_SIGNS), after)
    if letter == "e":
        return ("free",) + reader.next_numbers(1)
    return None


def has_right_check(text):
    return check_of(text[:-CHECK_SIGNS]) == text[-CHECK_SIGNS:]


def told_by_text(text):
    """What a text that has a size tells, perhaps no page; BadText where a number or a sign isn't one."""
    if not has_right_check(text):
        return None
    long = number_of(text[1:BODY_START])
    return told_page(text[0], text[BODY_START:BODY_START + long])


def page_of(text):
    if not isinstance(text, str) or not is_size(len(text)):
        raise BadPage(None, "no text of a size from 64 to 200")
    try:
        page = told_by_text(text)
    except BadText:
        raise BadPage(None, "a text with other signs than a page's") from None
    if not is_page(page):
        raise BadPage(None, "a text that tells no page")
    # One page has one text: so whatever else is wrong with lengths, counts and noughts shows here.
    if unchecked_text(page, body_text(page), len(text)) != text[:-CHECK_SIGNS]:
        raise BadPage(None, "a text that isn't as its page's")
    return page


def leads_to(page):
    if not is_page(page):
        raise BadPage(None, "no page")
    if page[0] == "head":
        numbers = [page[1], page[4]]
    elif page[0] == "leaf":
        numbers = [row[1][2] for row in page[1] if row[1][0] == "out"]
    elif page[0] == "fork":
        numbers = list(page[2])
    else:
        numbers = [page[-1]]
    return [number for number in numbers if number != 0]
