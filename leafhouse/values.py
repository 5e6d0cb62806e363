"""Values: where one stands, in its cell or in rests."""

from leafhouse.errors import BadValue
from leafhouse.kinds import is_value
from leafhouse.pages import NUMBER_SIGNS, room_of


def most_in_cell(size):
    return size // 8


def most_in_rest(size):
    return room_of(size) - NUMBER_SIGNS


def rest_texts(value, size):
    """The value parted as it stands in rests: each text but the last fills its rest."""
    long = most_in_rest(size)
    return [value[start:start + long] for start in range(0, len(value), long)]


def cell_for(store, value):
    if not is_value(value):
        raise BadValue("no value")
    size = store.disk.size
    if len(value) <= most_in_cell(size):
        return ("in", value)
    texts = rest_texts(value, size)
    numbers = [store.fresh() for text in texts]
    for text, number, after in zip(texts, numbers, numbers[1:] + [0]):
        store.put(number, ("rest", text, after))
    return ("out", len(value), numbers[0])


def rests_at(reader, cell):
    """The rests that a cell leads to, in order, each as a tuple (number, text)."""
    rests = []
    number = cell[2] if cell[0] == "out" else 0
    while number != 0:
        page = reader.page(number)
        rests.append((number, page[1]))
        number = page[2]
    return rests


def value_at(reader, cell):
    if cell[0] == "in":
        return cell[1]
    return "".join([text for number, text in rests_at(reader, cell)])


def drop_cell(store, cell):
    for number, text in rests_at(store, cell):
        store.let_go(number)
