"""The shelf: some pages of a disk at a time, and those that were changed and not yet written."""

from leafhouse.errors import BadPage, BadSize
from leafhouse.pages import is_number, page_of, page_text
from leafhouse.signs import is_whole

LEAST_HELD = 2
MOST_HELD = 40


def own_page(number, page, size):
    """A page as its text tells it, so that nothing of what was handed in is kept."""
    if not is_number(number):
        raise BadPage(None, "no page's number")
    try:
        text = page_text(page, size)
    except BadPage:
        raise BadPage(number, "no page, or one that is too long") from None
    return page_of(text)


class Shelf:
    """Holds up to so many pages, and more only where they were changed."""

    def __init__(self, disk, most):
        if not is_whole(most) or most < LEAST_HELD or most > MOST_HELD:
            raise BadSize("no number of pages from 2 to 40")
        self.disk = disk
        self.most = most
        # From numbers to pages, the one not asked for longest first.
        self.at_hand = {}
        self.unwritten = {}
        self.read_so_far = 0

    def page(self, number):
        if not is_whole(number):
            raise BadPage(None, "no page's number")
        page = self.at_hand[number] if number in self.at_hand else self.read(number)
        self.hold(number, page)
        return page

    def read(self, number):
        texts = self.disk.pages()
        if number < 0 or number >= len(texts):
            raise BadPage(number, "there is no such page")
        try:
            page = page_of(texts[number])
        except BadPage:
            raise BadPage(number, "what stands there is no page's text") from None
        self.read_so_far = self.read_so_far + 1
        return page

    def hold(self, number, page):
        """It is the one asked for last; another one may go for it."""
        if number in self.at_hand:
            self.at_hand.pop(number)
        self.at_hand[number] = page
        self.make_room()

    def make_room(self):
        unchanged = [number for number in self.at_hand if number not in self.unwritten]
        beyond = max(len(self.at_hand) - self.most, 0)
        for number in unchanged[:beyond]:
            self.at_hand.pop(number)

    def put(self, number, page):
        own = own_page(number, page, self.disk.size)
        self.unwritten[number] = True
        self.hold(number, own)

    def write(self, number):
        if number in self.unwritten:
            self.disk.write(number, page_text(self.at_hand[number], self.disk.size))
            self.unwritten.pop(number)
        self.make_room()

    def changed(self):
        return sorted(self.unwritten)

    def held(self):
        return list(self.at_hand)

    def reads(self):
        return self.read_so_far

    def forget(self):
        self.at_hand = {}
        self.unwritten = {}
