"""Cursors: each goes through the keys of a table while these change."""

from leafhouse.tree import need_key, next_key

AHEAD = "ahead"
BEHIND = "behind"
AMONG = "among"


class Cursor:
    """Keeps a key alone, and no page: so no change of the table moves it."""

    def __init__(self, table):
        self.table = table
        self.stands = AHEAD
        self.key = None

    def stand(self, where, key):
        self.stands = where
        self.key = key

    def to_start(self):
        self.stand(AHEAD, None)

    def to_end(self):
        self.stand(BEHIND, None)

    def to(self, key):
        need_key(key)
        self.stand(AMONG, key)

    def at(self):
        return self.key

    def forth(self):
        return self.go(BEHIND, False)

    def back(self):
        return self.go(AHEAD, True)

    def go(self, end, back):
        """To the next key on one side, or to the end there."""
        found = None if self.stands == end else next_key(self.table.store, self.key, back)
        self.stand(end if found is None else AMONG, found)
        return found
