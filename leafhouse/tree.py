"""The tree: from keys to cells, through forks down to leaves, and how its pages stay as full as they must be."""

from leafhouse.errors import BadKey
from leafhouse.kinds import is_key
from leafhouse.parting import is_too_long, is_too_short, joined, parted


def need_key(thing):
    if not is_key(thing):
        raise BadKey("no key")


def place_of(fork, key):
    """The place of the kid beneath which a key lies."""
    return len([each for each in fork[1] if each <= key])


def cell_of(reader, key):
    need_key(key)
    page = reader.page(reader.head()[1])
    while page[0] == "fork":
        page = reader.page(page[2][place_of(page, key)])
    return dict(page[1]).get(key)


def next_key(reader, key, back=False):
    if key is not None:
        need_key(key)
    return next_beneath(reader, reader.head()[1], key, back)


def next_beneath(reader, number, key, back):
    page = reader.page(number)
    if page[0] == "leaf":
        return next_among([row[0] for row in page[1]], key, back)
    for kid in kids_ahead(page, key, back):
        found = next_beneath(reader, kid, key, back)
        if found is not None:
            return found
    return None


def kids_ahead(fork, key, back):
    """The kids beneath which the next key may lie, the nearest first."""
    if back:
        many = len(fork[2]) if key is None else place_of(fork, key) + 1
        return list(reversed(fork[2][:many]))
    return fork[2] if key is None else fork[2][place_of(fork, key):]


def next_among(keys, key, back):
    if back:
        return max([each for each in keys if key is None or each < key], default=None)
    return min([each for each in keys if key is None or each > key], default=None)


def rows_of(reader):
    """All rows of the tree, keys rising."""
    rows = []
    ahead = [reader.head()[1]]
    while len(ahead) > 0:
        page = reader.page(ahead.pop())
        if page[0] == "leaf":
            rows.extend(page[1])
        else:
            ahead.extend(list(reversed(page[2])))
    return rows


def with_kid(fork, place, key, kid):
    """A fork with one kid more, behind the one at a place; key is the one between them."""
    keys = fork[1][:place] + (key,) + fork[1][place:]
    return ("fork", keys, fork[2][:place + 1] + (kid,) + fork[2][place + 1:])


def without_kid(fork, place):
    """A fork without the key at a place and the kid behind it."""
    return ("fork", fork[1][:place] + fork[1][place + 1:], fork[2][:place + 1] + fork[2][place + 2:])


def with_key(fork, place, key):
    return ("fork", fork[1][:place] + (key,) + fork[1][place + 1:], fork[2])


class Way:
    """The way from the top down to the leaf where a key belongs, and the mending of all on it from there up."""

    def __init__(self, store, key):
        self.store = store
        # The forks on the way, the top first: for each its number, itself and the place of the kid.
        self.forks = []
        # Let go behind all else alone, so that no page is let go and taken in one deed.
        self.spare = []
        self.number = store.head()[1]
        self.leaf = store.page(self.number)
        while self.leaf[0] == "fork":
            place = place_of(self.leaf, key)
            self.forks.append((self.number, self.leaf, place))
            self.number = self.leaf[2][place]
            self.leaf = store.page(self.number)

    def is_long(self, page):
        return is_too_long(page, self.store.disk.size)

    def is_short(self, page):
        return is_too_short(page, self.store.disk.size)

    def put_rows(self, rows, more):
        """The leaf has these rows, so many more than before."""
        number = self.number
        page = ("leaf", rows)
        while len(self.forks) > 0 and (self.is_long(page) or self.is_short(page)):
            above, fork, place = self.forks.pop()
            page = self.part(number, page, fork, place) if self.is_long(page) else self.fill(page, fork, place)
            number = above
        if len(self.forks) > 0:
            self.store.put(number, page)
            self.end(self.store.head()[1], 0, more)
        else:
            self.put_top(number, page, more)

    def part(self, number, page, fork, place):
        """Puts in what is too long in two; gives back the fork above as it is then."""
        left, key, right = parted(page)
        other = self.store.fresh()
        self.store.put(number, left)
        self.store.put(other, right)
        return with_kid(fork, place, key, other)

    def fill(self, page, fork, place):
        """Puts in what is too short with what its neighbour has; gives back the fork above as it is then."""
        # The neighbour behind it, or, where there is none, the one ahead of it.
        start = min(place, len(fork[1]) - 1)
        pair = fork[2][start:start + 2]
        left = page if start == place else self.store.page(pair[0])
        right = self.store.page(pair[1]) if start == place else page
        whole = joined(left, fork[1][start], right)
        if self.is_long(whole):
            left, key, right = parted(whole)
            self.store.put(pair[0], left)
            self.store.put(pair[1], right)
            return with_key(fork, start, key)
        self.store.put(pair[0], whole)
        self.spare.append(pair[1])
        return without_kid(fork, start)

    def put_top(self, number, page, more):
        if self.is_long(page):
            fork = self.part(number, page, ("fork", (), (number,)), 0)
            top = self.store.fresh()
            self.store.put(top, fork)
            self.end(top, 1, more)
        elif page[0] == "fork" and len(page[1]) == 0:
            self.spare.append(number)
            self.end(page[2][0], -1, more)
        else:
            self.store.put(number, page)
            self.end(number, 0, more)

    def end(self, top, deeper, more):
        head = self.store.head()
        told = (top, head[2] + deeper, head[3] + more)
        if told != head[1:4]:
            self.store.put_head(told[0], told[1], told[2])
        for number in self.spare:
            self.store.let_go(number)


def put_cell(store, key, cell):
    need_key(key)
    way = Way(store, key)
    cells = dict(way.leaf[1])
    had = cells.get(key)
    cells[key] = cell
    way.put_rows(tuple([(each, cells[each]) for each in sorted(cells)]), 1 if had is None else 0)
    return had


def take_cell(store, key):
    need_key(key)
    way = Way(store, key)
    had = dict(way.leaf[1]).get(key)
    if had is not None:
        way.put_rows(tuple([row for row in way.leaf[1] if row[0] != key]), -1)
    return had
