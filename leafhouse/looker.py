"""The looker: what is wrong with page texts as they lie."""

from leafhouse.errors import BadPage, BadText
from leafhouse.pages import page_of
from leafhouse.parting import is_too_short
from leafhouse.values import most_in_cell, rest_texts
from leafhouse.walking import BARRING_WORDS, Walk

# Of one page the first of these that holds is told.
WORDS = ("text", "kind", "twice", "order", "depth", "full", "rest", "lost", "many")


def need_texts(thing):
    if not isinstance(thing, list) or not all([isinstance(text, str) for text in thing]):
        raise BadText("no list of texts")


def page_or_none(text, size):
    if len(text) != size:
        return None
    try:
        return page_of(text)
    except BadPage:
        return None


def has_head(pages):
    return pages[0] is not None and pages[0][0] == "head"


def walk_through(pages):
    walk = Walk(pages)
    if has_head(pages):
        if pages[0][1] != 0:
            walk.go_down(pages[0][1])
        walk.go_through_free(pages[0][4])
    return walk


def told_where_they_lie(pages):
    """What is told of pages whether they are come to or not."""
    told = [(number, "text") for number, page in enumerate(pages) if page is None]
    if pages[0] is not None and (pages[0][0] != "head" or pages[0][1] == 0):
        told.append((0, "kind"))
    elsewhere = [number for number, page in enumerate(pages) if number > 0 and page is not None and page[0] == "head"]
    return told + [(number, "kind") for number in elsewhere]


def is_in_order(step):
    page = step.tree_page
    keys = [row[0] for row in page[1]] if page[0] == "leaf" else page[1]
    return all([step.least <= key and (step.beyond is None or key < step.beyond) for key in keys])


def is_deep_as_told(step, depth):
    return step.down == depth if step.tree_page[0] == "leaf" else step.down < depth


def is_cell_as_due(cell, size):
    if cell[0] == "in":
        return len(cell[1]) <= most_in_cell(size)
    return cell[1] > most_in_cell(size)


def is_full_as_due(step, size):
    page = step.tree_page
    if page[0] == "leaf" and not all([is_cell_as_due(row[1], size) for row in page[1]]):
        return False
    if step.down == 1:
        return page[0] == "leaf" or len(page[2]) > 1
    return not is_too_short(page, size)


def are_rests_as_told(cell, texts, size):
    if cell[0] == "in" or texts is None:
        return True
    due = [len(text) for text in rest_texts(" " * cell[1], size)]
    return [len(text) for text in texts] == due


def has_rests_as_told(leaf, size):
    return all([are_rests_as_told(row[1], texts, size) for row, texts in zip(leaf.tree_page[1], leaf.rests)])


def words_of(step, depth, size):
    words = []
    if not is_in_order(step):
        words.append("order")
    if not is_deep_as_told(step, depth):
        words.append("depth")
    if not is_full_as_due(step, size):
        words.append("full")
    if step.tree_page[0] == "leaf" and not has_rests_as_told(step, size):
        words.append("rest")
    return words


def told_of_steps(walk, depth, size):
    told = []
    for step in walk.steps:
        told.extend([(step.number, word) for word in words_of(step, depth, size)])
    return told


def told_of_the_whole(walk, pages):
    """What is told only where the walk came to all that it led to."""
    told = [(number, "lost") for number in range(1, len(pages)) if number not in walk.gone_on]
    many = sum([len(step.tree_page[1]) for step in walk.steps if step.tree_page[0] == "leaf"])
    return told + ([(0, "many")] if many != pages[0][3] else [])


def first_words(told):
    """Of each page the first word, rising by numbers."""
    ranks = {}
    for number, word in told:
        rank = WORDS.index(word)
        ranks[number] = min(ranks.get(number, rank), rank)
    return [(number, WORDS[ranks[number]]) for number in sorted(ranks)]


def faults(texts):
    need_texts(texts)
    if len(texts) == 0:
        return [(0, "text")]
    size = len(texts[0])
    pages = [page_or_none(text, size) for text in texts]
    walk = walk_through(pages)
    told = told_where_they_lie(pages) + walk.barred
    if not any([word in BARRING_WORDS for number, word in told]):
        told = told + told_of_the_whole(walk, pages)
    if has_head(pages):
        told = told + told_of_steps(walk, pages[0][2], size)
    return first_words(told)
