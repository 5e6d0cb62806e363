"""The table: from keys to values, by deeds alone or in bundles."""

from leafhouse.cursors import Cursor
from leafhouse.errors import BadValue, NoKey
from leafhouse.kinds import is_value
from leafhouse.reading import found_value, has_key, keys_of, many_of
from leafhouse.store import Store
from leafhouse.tree import need_key, put_cell, take_cell
from leafhouse.values import cell_for, drop_cell
from leafhouse.views import View


class Table:
    def __init__(self, disk, most=8):
        self.store = Store(disk, most)
        self.last_asked = []

    def get(self, key):
        need_key(key)
        value = self.noting(lambda: found_value(self.store, key))
        if value is None:
            raise NoKey(key)
        return value

    def has(self, key):
        need_key(key)
        return self.noting(lambda: has_key(self.store, key))

    def put(self, key, value):
        need_key(key)
        if not is_value(value):
            raise BadValue("no value")
        self.do(lambda: self.put_value(key, value))

    def put_value(self, key, value):
        # New rests ahead of the letting go of old ones: so none of these is taken again in the same deed.
        had = put_cell(self.store, key, cell_for(self.store, value))
        if had is not None:
            drop_cell(self.store, had)

    def take(self, key):
        # No bundle is begun for a key that isn't there.
        if not self.has(key):
            raise NoKey(key)
        self.do(lambda: drop_cell(self.store, take_cell(self.store, key)))

    def do(self, deed):
        """A deed is a bundle by itself where none is open."""
        alone = not self.store.is_open()
        if alone:
            self.store.begin()
        self.noting(deed)
        if alone:
            self.store.keep()

    def noting(self, doing):
        """What a doing tells; the pages that it asks for are those last touched."""
        self.store.asked()
        told = doing()
        self.last_asked = self.store.asked()
        return told

    def touched(self):
        return list(self.last_asked)

    def many(self):
        return many_of(self.store)

    def all_keys(self):
        return keys_of(self.store)

    def begin(self):
        self.store.begin()

    def keep(self):
        self.store.keep()

    def undo(self):
        self.store.undo()

    def rest(self):
        self.store.rest()

    def is_open(self):
        return self.store.is_open()

    def cursor(self):
        return Cursor(self)

    def view(self):
        return View(self)
