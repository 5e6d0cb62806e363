"""Keys and values."""

from leafhouse.signs import is_text

MOST_KEY_SIGNS = 12
MOST_VALUE_SIGNS = 400


def is_key(thing):
    return is_text(thing) and 1 <= len(thing) <= MOST_KEY_SIGNS


def is_value(thing):
    return is_text(thing) and len(thing) <= MOST_VALUE_SIGNS
