"""Leading over: the paper of what happens to things whose fields change, and its judge."""

from sendstead.worths import is_plain, same


class Outline:
    """The kinds of a book with their fields, as they stood when it was drawn: later edits don't change it."""

    def __init__(self, book):
        self._kinds = book.kinds()
        self._own = {kind: book.own(kind) for kind in self._kinds}
        self._fields = {kind: book.fields(kind) for kind in self._kinds}

    def kinds(self):
        """The kinds, in the book's order."""
        return self._kinds

    def own(self, kind):
        """The own fields of a kind."""
        return self._own[kind]

    def fields(self, kind):
        """All fields of a kind."""
        return self._fields[kind]


def leads(before, behind, thing):
    """The judge: whether a thing is the paper of leading over from one book to the other."""
    worth = told_worth(thing)
    if not is_plain(worth):
        return False
    ahead = Outline(before)
    now = Outline(behind)
    if worth is not None and not has_grown(ahead, now):
        return False
    return same(leading(ahead, now, worth), thing)


def leading(ahead, now, worth):
    """The paper of leading over from one outline to the other, with this worth in new fields."""
    changed = [kind for kind in ahead.kinds() if ahead.fields(kind) != now.fields(kind)]
    return tuple([(kind, ahead.fields(kind), now.fields(kind), worth) for kind in changed])


def has_grown(ahead, now):
    """Whether a kind has more own fields in the second outline than in the first."""
    return any([len(now.own(kind)) > len(ahead.own(kind)) for kind in ahead.kinds()])


def told_worth(thing):
    """The worth in the first row of what may be a paper, or None where there is no such row."""
    if not isinstance(thing, tuple) or len(thing) == 0:
        return None
    row = thing[0]
    if not isinstance(row, tuple) or len(row) != 4:
        return None
    return row[3]
