"""Parting and joining: how full a page is, and how what is too long becomes two pages that fit."""

from leafhouse.pages import NUMBER_SIGNS, body_of, key_text, room_of, row_text


def least_body(size):
    """How long the body of a page of the tree is at least, but the top's."""
    return room_of(size) // 4


def is_too_short(page, size):
    return len(body_of(page)) < least_body(size)


def is_too_long(page, size):
    return len(body_of(page)) > room_of(size)


def middle_of(lengths, gap):
    """The place at which both sides are as alike in length as can be.

    What stands there belongs to neither side where gap is 1, and is the right side's first where it is 0.
    """
    left = 0
    right = sum(lengths)
    best = 0
    least = right
    for place, long in enumerate(lengths):
        other = right - long * gap
        if abs(left - other) < least:
            best = place
            least = abs(left - other)
        left = left + long
        right = right - long
    return best


def parted_leaf(rows):
    place = middle_of([len(row_text(row)) for row in rows], 0)
    return (("leaf", rows[:place]), rows[place][0], ("leaf", rows[place:]))


def parted_fork(keys, kids):
    place = middle_of([len(key_text(key)) + NUMBER_SIGNS for key in keys], 1)
    left = ("fork", keys[:place], kids[:place + 1])
    return (left, keys[place], ("fork", keys[place + 1:], kids[place + 1:]))


def parted(page):
    """A leaf or fork that is too long in two: the left one, the key between them, the right one.

    A row or key with its kid is never longer than two fifths of the room. So, parted as evenly as can be,
    both sides fit and have a quarter of it at least, where the page is too long by one row or key, or is
    joined of one that is too short and its neighbour.
    """
    if page[0] == "leaf":
        return parted_leaf(page[1])
    return parted_fork(page[1], page[2])


def joined(left, key, right):
    """Two neighbours in one, perhaps too long; key is the one between them in the fork above."""
    if left[0] == "leaf":
        return ("leaf", left[1] + right[1])
    return ("fork", left[1] + (key,) + right[1], left[2] + right[2])
