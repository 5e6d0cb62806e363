"""The store: the pages of a disk through bundles, rests and falls."""

from leafhouse.errors import BadPage, InBundle, NoBundle
from leafhouse.journal import bundle_rows, kept_bundles
from leafhouse.pages import is_number, page_text
from leafhouse.shelf import Shelf, own_page
from leafhouse.signs import is_whole

# Behind a bundle with which the journal has more rows than these, a rest is done.
MOST_ROWS_UNRESTED = 40
FIRST_HEAD = ("head", 1, 1, 0, 0)
EMPTY_LEAF = ("leaf", ())


class Store:
    """Its shelf has what was kept alone; the pages of the bundle under way stand beside it, so undo lets them go."""

    def __init__(self, disk, most=8):
        self.shelf = Shelf(disk, most)
        self.disk = disk
        # From numbers to pages; None where no bundle is open.
        self.under_way = None
        self.noted = {}
        self.watchers = []
        self.come_up()
        self.kept_total = len(disk.pages())
        self.total = self.kept_total

    def come_up(self):
        bundles = kept_bundles(self.disk.rows(), self.disk.size)
        for bundle in bundles:
            for number, page in bundle:
                self.shelf.put(number, page)
        if len(bundles) == 0 and not self.has_head():
            self.begin_table()
        self.rest()

    def has_head(self):
        try:
            return self.shelf.page(0)[0] == "head"
        except BadPage:
            return False

    def begin_table(self):
        # What a fall left there would hide the rows behind it.
        if len(self.disk.rows()) > 0:
            self.disk.clear()
        self.keep_pages({0: FIRST_HEAD, 1: EMPTY_LEAF})

    def keep_pages(self, pages):
        texts = {}
        for number in sorted(pages):
            texts[number] = page_text(pages[number], self.disk.size)
        for row in bundle_rows(texts):
            self.disk.add(row)
        for number in sorted(pages):
            self.shelf.put(number, pages[number])

    def rest(self):
        self.need_no_bundle()
        for number in self.shelf.changed():
            self.shelf.write(number)
        if len(self.disk.rows()) > 0:
            self.disk.clear()

    def need_bundle(self):
        if self.under_way is None:
            raise NoBundle("there is no bundle")

    def need_no_bundle(self):
        if self.under_way is not None:
            raise InBundle("a bundle is under way")

    def is_open(self):
        return self.under_way is not None

    def begin(self):
        self.need_no_bundle()
        self.under_way = {}

    def keep(self):
        self.need_bundle()
        pages = self.other_pages()
        self.under_way = None
        self.keep_pages(pages)
        self.kept_total = self.total
        if len(self.disk.rows()) > MOST_ROWS_UNRESTED:
            self.rest()

    def other_pages(self):
        """The pages of the bundle under way that are others than when it began."""
        pages = {}
        for number in sorted(self.under_way):
            page = self.under_way[number]
            if number >= self.kept_total or self.shelf.page(number) != page:
                pages[number] = page
        return pages

    def undo(self):
        self.need_bundle()
        for number in sorted(self.under_way):
            self.tell_watchers(number)
            self.under_way.pop(number)
        self.under_way = None
        self.total = self.kept_total

    def current(self, number):
        """A page as it is now; BadPage where there is none. It counts as asked for by nobody."""
        if self.under_way is not None and number in self.under_way:
            return self.under_way[number]
        return self.shelf.page(number)

    def page(self, number):
        # Ahead of current, as a thing of another kind may fail to be looked up.
        if not is_whole(number):
            raise BadPage(None, "no page's number")
        page = self.current(number)
        self.noted[number] = True
        return page

    def put(self, number, page):
        self.need_bundle()
        if is_number(number) and number > self.total:
            raise BadPage(number, "a number beyond the next one")
        own = own_page(number, page, self.disk.size)
        self.tell_watchers(number)
        self.under_way[number] = own
        self.noted[number] = True
        self.total = max(self.total, number + 1)

    def head(self):
        return self.page(0)

    def put_head(self, top, depth, many):
        self.need_bundle()
        self.put(0, ("head", top, depth, many, self.current(0)[4]))

    def put_free(self, number):
        """Let the row of free ones begin with another one, or with none: 0."""
        head = self.current(0)
        self.put(0, head[:4] + (number,))

    def fresh(self):
        self.need_bundle()
        number = self.current(0)[4]
        if number == 0:
            number = self.total
        else:
            self.put_free(self.current(number)[1])
        self.put(number, EMPTY_LEAF)
        self.noted[0] = True
        return number

    def let_go(self, number):
        self.need_bundle()
        self.page(number)
        self.put(number, ("free", self.current(0)[4]))
        self.put_free(number)

    def asked(self):
        numbers = sorted(self.noted)
        self.noted = {}
        return numbers

    def watch(self, told):
        self.watchers.append(told)

    def unwatch(self, told):
        if told in self.watchers:
            self.watchers.remove(told)

    def tell_watchers(self, number):
        """Ahead of a change of a page."""
        page = self.current(number) if number < self.total else None
        for told in list(self.watchers):
            told(number, page)
