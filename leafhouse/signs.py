"""Signs and checks: what a text is, how a number is written, the check of a text."""

from leafhouse.errors import BadNumber, BadText

SIGNS = "0123456789abcdefghijklmnopqrstuvwxyzABCDEFGHIJKLMNOPQRSTUVWXYZ+-"
BITS = 6
LOWEST_BITS = 63
MOST_SIGNS = 3
# Told by its number, as that sign itself may stand in no text of the program.
PERCENT = 37
CHECK_DIVISOR = 4093
CHECK_SIGNS = 2


def is_whole(thing):
    # True and False are ints for Python, but no whole numbers here.
    return isinstance(thing, int) and not isinstance(thing, bool)


def is_sign(sign):
    return " " <= sign <= "~" and ord(sign) != PERCENT


def is_text(thing):
    return isinstance(thing, str) and all([is_sign(sign) for sign in thing])


def sign_number(sign):
    return ord(sign) - ord(" ") + 1


# The errors' words never show what was handed in: a thing of any kind may fail to be shown.
def digits(number, many):
    if not is_whole(number) or number < 0:
        raise BadNumber("no whole number from nought on")
    if not is_whole(many) or many < 1 or many > MOST_SIGNS:
        raise BadNumber("a number is written by one to three signs")
    if number >> (BITS * many) > 0:
        raise BadNumber("a number greater than so many signs write")
    text = ""
    left = number
    for place in range(many):
        text = SIGNS[left & LOWEST_BITS] + text
        left = left >> BITS
    return text


def is_written_number(thing):
    if not isinstance(thing, str) or len(thing) < 1 or len(thing) > MOST_SIGNS:
        return False
    return all([sign in SIGNS for sign in thing])


def number_of(text):
    if not is_written_number(text):
        raise BadText("no number of one to three signs")
    number = 0
    for sign in text:
        number = (number << BITS) + SIGNS.index(sign)
    return number


def check_of(text):
    if not is_text(text):
        raise BadText("no text")
    total = sum([sign_number(sign) * place for place, sign in enumerate(text, start=1)])
    return digits(total % CHECK_DIVISOR, CHECK_SIGNS)
