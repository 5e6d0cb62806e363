"""Signs and checks: what a text is, how a number is written, the check of a text."""

from leafhouse.errors import BadNumber, BadText

SIGNS = "0123456789abcdefghijklmnopqrstuvwxyzABCDEFGHIJKLMNOPQRSTUVWXYZ+-"
BITS = 6
LOWEST_BITS = 63
MOST_SIGNS = 3
TEXT_SIGNS = " !\"#$&'()*+,-./0123456789:;<=>?@ABCDEFGHIJKLMNOPQRSTUVWXYZ[\\]^_`abcdefghijklmnopqrstuvwxyz{|}~"
# What a sign's number in a check is less than its code.
CODES_AHEAD = 31
CHECK_DIVISOR = 4093
CHECK_SIGNS = 2


def is_whole(thing):
    # True and False are ints for Python, but no whole numbers here.
    return isinstance(thing, int) and not isinstance(thing, bool)


def is_text(thing):
    # Strip takes away just these signs from both ends: where nothing is left, there was no other one.
    return isinstance(thing, str) and thing.strip(TEXT_SIGNS) == ""


# The errors' words never show what was handed in: a thing of any kind may fail to be shown.
def digits(number, many):
    if not is_whole(number) or number < 0:
        raise BadNumber("no whole number from nought on")
    if not is_whole(many) or many < 1 or many > MOST_SIGNS:
        raise BadNumber("a number is written by one to three signs")
    if number >> (BITS * many) > 0:
        raise BadNumber("a number greater than so many signs write")
    text = ""
    left = number
    for place in range(many):
        text = SIGNS[left & LOWEST_BITS] + text
        left = left >> BITS
    return text


def is_written_number(thing):
    if not isinstance(thing, str) or len(thing) < 1 or len(thing) > MOST_SIGNS:
        return False
    return all([sign in SIGNS for sign in thing])


def number_of(text):
    if not is_written_number(text):
        raise BadText("no number of one to three signs")
    number = 0
    for sign in text:
        number = (number << BITS) + SIGNS.index(sign)
    return number


def check_of(text):
    if not is_text(text):
        raise BadText("no text")
    total = sum([(ord(sign) - CODES_AHEAD) * place for place, sign in enumerate(text, start=1)])
    return digits(total % CHECK_DIVISOR, CHECK_SIGNS)
