"""Views: each reads a table as it was when the view was made."""

from leafhouse.errors import Closed, NoKey
from leafhouse.reading import found_value, has_key, keys_of, many_of


class Past:
    """A reader of a store's pages as they were; it keeps those that have changed since, as they are told."""

    def __init__(self, store):
        self.store = store
        before = {}
        self.before = before
        # The first telling of a page has it as it was; a later one tells what came since.
        self.told = lambda number, page: before.setdefault(number, page)
        store.watch(self.told)

    def page(self, number):
        return self.before[number] if number in self.before else self.store.page(number)

    def head(self):
        return self.page(0)

    def end(self):
        self.store.unwatch(self.told)


class View:
    def __init__(self, table):
        # None behind close.
        self.past = Past(table.store)

    def need_past(self):
        if self.past is None:
            raise Closed("the view is closed")
        return self.past

    def get(self, key):
        value = found_value(self.need_past(), key)
        if value is None:
            raise NoKey(key)
        return value

    def has(self, key):
        return has_key(self.need_past(), key)

    def all_keys(self):
        return keys_of(self.need_past())

    def many(self):
        return many_of(self.need_past())

    def close(self):
        if self.past is not None:
            self.past.end()
        self.past = None
