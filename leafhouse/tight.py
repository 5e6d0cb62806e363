"""Tight files: the keys and values of a table on a new disk, in as few leaves as can be."""

from leafhouse.disk import Disk
from leafhouse.pages import page_text
from leafhouse.parting import is_too_long, is_too_short, joined, parted
from leafhouse.tree import rows_of
from leafhouse.values import cell_for, value_at


class NewPages:
    """The pages of a disk to come, in the place of a store."""

    def __init__(self, size):
        self.disk = Disk(size)
        # The head's place is the first one.
        self.made = [None]

    def fresh(self):
        self.made.append(None)
        return len(self.made) - 1

    def put(self, number, page):
        self.made[number] = page

    def add(self, page):
        number = self.fresh()
        self.put(number, page)
        return number

    def written(self):
        for number, page in enumerate(self.made):
            self.disk.write(number, page_text(page, self.disk.size))
        return self.disk


def packed(parts, keys, size):
    """Pages joined of parts, each as full as can be, and the keys between them; keys are those between the parts."""
    pages = [parts[0]]
    between = []
    for key, part in zip(keys, parts[1:]):
        longer = joined(pages[-1], key, part)
        if is_too_long(longer, size):
            pages.append(part)
            between.append(key)
        else:
            pages[-1] = longer
    # The last one alone may have become too short; with the one ahead of it there is enough for two.
    if len(pages) > 1 and is_too_short(pages[-1], size):
        left, key, right = parted(joined(pages[-2], between[-1], pages[-1]))
        return (pages[:-2] + [left, right], between[:-1] + [key])
    return (pages, between)


def put_tree(new, rows):
    """Puts in a tree of rows, keys rising; tells its top and how deep it is."""
    size = new.disk.size
    parts = [("leaf", (row,)) for row in rows] if len(rows) > 0 else [("leaf", ())]
    pages, keys = packed(parts, [row[0] for row in rows[1:]], size)
    depth = 1
    while len(pages) > 1:
        parts = [("fork", (), (new.add(page),)) for page in pages]
        pages, keys = packed(parts, keys, size)
        depth = depth + 1
    return (new.add(pages[0]), depth)


def tight(table, size):
    new = NewPages(size)
    rows = [(key, cell_for(new, value_at(table.store, cell))) for key, cell in rows_of(table.store)]
    top, depth = put_tree(new, rows)
    new.put(0, ("head", top, depth, len(rows), 0))
    return new.written()
