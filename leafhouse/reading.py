"""What a table and a view both tell, of whatever reader they have."""

from leafhouse.tree import cell_of, rows_of
from leafhouse.values import value_at


def has_key(reader, key):
    return cell_of(reader, key) is not None


def found_value(reader, key):
    """The value of a key, or None."""
    cell = cell_of(reader, key)
    return None if cell is None else value_at(reader, cell)


def keys_of(reader):
    return [row[0] for row in rows_of(reader)]


def many_of(reader):
    return reader.head()[3]
