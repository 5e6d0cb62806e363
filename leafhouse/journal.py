"""The journal: the rows by which a bundle is kept, and the bundles that stand in rows."""

from leafhouse.errors import BadPage, BadText
from leafhouse.pages import NUMBER_SIGNS, has_right_check, page_of
from leafhouse.signs import CHECK_SIGNS, check_of, digits, number_of

LAST_ROW_SIGNS = 5


def with_check(text):
    return text + check_of(text)


def bundle_rows(texts):
    """The rows of a bundle, from a dict that leads from the numbers of its pages to their texts."""
    rows = [with_check(digits(number, NUMBER_SIGNS) + texts[number]) for number in sorted(texts)]
    if len(rows) == 0:
        return []
    return rows + [with_check("k" + digits(len(rows), NUMBER_SIGNS))]


def is_last_row(row):
    # A page's row may begin with k too, but is longer.
    return len(row) == LAST_ROW_SIGNS and row[0] == "k"


def rows_told(row):
    """How many rows the last row of a bundle tells; nought where it tells no number, too."""
    try:
        return number_of(row[1:-CHECK_SIGNS])
    except BadText:
        return 0


def page_told(row, size):
    """The number and the page that a row tells, or None."""
    if len(row) != NUMBER_SIGNS + size + CHECK_SIGNS:
        return None
    try:
        return (number_of(row[:NUMBER_SIGNS]), page_of(row[NUMBER_SIGNS:-CHECK_SIGNS]))
    except (BadText, BadPage):
        return None


def kept_bundles(rows, size):
    """The bundles whose last row stands: for each a list of the tuples (number, page) of its rows."""
    bundles = []
    pages = []
    for row in rows:
        if not has_right_check(row):
            return bundles
        if is_last_row(row):
            if len(pages) == 0 or rows_told(row) != len(pages):
                return bundles
            bundles.append(pages)
            pages = []
        else:
            told = page_told(row, size)
            if told is None:
                return bundles
            pages.append(told)
    return bundles
