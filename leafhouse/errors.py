"""The refusals: one class for each, all of them straight under TableError."""


class TableError(ValueError):
    """Any refusal."""


class BadNumber(TableError):
    """No whole number as it is wanted."""


class BadText(TableError):
    """No text as it is wanted."""


class BadSize(TableError):
    """No size as it is wanted."""


class BadKey(TableError):
    """No key."""


class BadValue(TableError):
    """No value."""


class BadPage(TableError):
    """No page as it is wanted; number is the page's, or None."""

    def __init__(self, number=None, words="no page as it is wanted"):
        TableError.__init__(self, words)
        self.number = number


class NoKey(TableError):
    """A key that the table doesn't have; key is that one."""

    def __init__(self, key=None, words="no such key"):
        TableError.__init__(self, words)
        self.key = key


class InBundle(TableError):
    """Asked within a bundle, where it can't be."""


class NoBundle(TableError):
    """Asked outside of a bundle, where it can't be."""


class PowerGone(TableError):
    """The power is off, or goes at this write."""


class Closed(TableError):
    """Asked of a view that is closed."""


class BadLine(TableError):
    """No line of the desk's."""
