"""The disk: page texts and the rows of a journal, and the write at which the power goes."""

from leafhouse.errors import BadNumber, BadPage, BadSize, BadText, PowerGone
from leafhouse.pages import is_size, page_of
from leafhouse.signs import is_text, is_whole


def is_page_text(thing, size):
    try:
        page_of(thing)
    except BadPage:
        return False
    return len(thing) == size


class Disk:
    """Keeps pages of one size; a row or page is there as soon as it is written."""

    def __init__(self, size):
        if not is_size(size):
            raise BadSize("no size from 64 to 200")
        self.size = size
        self.page_texts = []
        self.row_texts = []
        self.begun = 0
        self.off = False
        # How many writes are left up to the one at which the power goes; nought where no fall is awaited.
        self.turns_left = 0
        self.signs_done = 0

    def pages(self):
        return list(self.page_texts)

    def rows(self):
        return list(self.row_texts)

    def writes(self):
        return self.begun

    def is_off(self):
        return self.off

    def write(self, number, text):
        there = len(self.page_texts)
        if not is_whole(number) or number < 0 or number > there:
            raise BadNumber("neither the number of a page that is there nor the next one")
        if not is_page_text(text, self.size):
            raise BadPage(number, "no page's text of the disk's size")
        done = self.begin_write(text)
        if number == there:
            self.page_texts.append(" " * self.size)
        self.page_texts[number] = text[:done] + self.page_texts[number][done:]
        self.end_write()

    def add(self, row):
        if not is_text(row):
            raise BadText("no text")
        done = self.begin_write(row)
        self.row_texts.append(row[:done])
        self.end_write()

    def clear(self):
        self.begin_write("")
        if not self.off:
            self.row_texts = []
        self.end_write()

    def begin_write(self, text):
        """Counts a write of a text and tells how many of its signs are done."""
        if self.off:
            raise PowerGone("the power is off")
        self.begun = self.begun + 1
        if self.turns_left > 0:
            self.turns_left = self.turns_left - 1
            self.off = self.turns_left == 0
        return self.signs_done if self.off else len(text)

    def end_write(self):
        if self.off:
            raise PowerGone("the power goes at this write")

    def fall(self, turn, cut):
        if not is_whole(turn) or turn < 1:
            raise BadNumber("no whole number of a write from one on")
        if not is_whole(cut) or cut < 0:
            raise BadNumber("no whole number of signs from nought on")
        self.turns_left = turn
        self.signs_done = cut

    def up(self):
        self.off = False
        self.turns_left = 0
