"""Walking: through the pages as they lie, from the head on, whatever they lead to."""

TREE_KINDS = ("leaf", "fork")
REST_KINDS = ("rest",)
FREE_KINDS = ("free",)
# Where one of these is told of a coming to a page, the page isn't gone on from.
BARRING_WORDS = ("text", "kind", "twice")


class Step:
    """A leaf or fork as it is gone on from: how many pages down it lies, and which keys may stand in it.

    These are from least on and less than beyond; None for beyond is no bound. Of a leaf, rests has a list for
    each cell: the texts of its rests, or None where they end at a page that isn't gone on from.
    """

    def __init__(self, number, down, least, beyond):
        self.number = number
        self.down = down
        self.least = least
        self.beyond = beyond
        self.tree_page = None
        self.rests = []


class Walk:
    """A walk from a head on. It tells the steps in the order in which it goes, and what bars it."""

    def __init__(self, lying):
        # The pages by their numbers; None for what is no page.
        self.lying = lying
        self.steps = []
        self.gone_on = {}
        # Tuples (number, word).
        self.barred = []

    def come_to(self, number, due):
        """The page, if it is gone on from, else None."""
        page = self.lying[number] if number < len(self.lying) else None
        if page is None:
            return self.bar(number, "text")
        if page[0] not in due:
            return self.bar(number, "kind")
        if number in self.gone_on:
            return self.bar(number, "twice")
        self.gone_on[number] = True
        return page

    def bar(self, number, word):
        self.barred.append((number, word))
        return None

    def go_down(self, top):
        # The one to come to next stands last, so that all beneath a kid is ahead of the next kid.
        ahead = [Step(top, 1, "", None)]
        while len(ahead) > 0:
            step = ahead.pop()
            step.tree_page = self.come_to(step.number, TREE_KINDS)
            if step.tree_page is None:
                continue
            self.steps.append(step)
            if step.tree_page[0] == "leaf":
                step.rests = [self.rests_of(row[1]) for row in step.tree_page[1]]
            else:
                ahead.extend(list(reversed(steps_beneath(step))))

    def rests_of(self, cell):
        texts = []
        number = cell[2] if cell[0] == "out" else 0
        while number != 0:
            page = self.come_to(number, REST_KINDS)
            if page is None:
                return None
            texts.append(page[1])
            number = page[2]
        return texts

    def go_through_free(self, first):
        number = first
        while number != 0:
            page = self.come_to(number, FREE_KINDS)
            number = 0 if page is None else page[1]


def steps_beneath(step):
    """The steps to a fork's kids, in order."""
    keys = list(step.tree_page[1])
    leasts = [step.least] + keys
    beyonds = keys + [step.beyond]
    steps = []
    for kid, least, beyond in zip(step.tree_page[2], leasts, beyonds):
        steps.append(Step(kid, step.down + 1, least, beyond))
    return steps
