"""Leading over: the paper of what happens to things whose fields change, and its judge."""

from sendstead.worths import is_plain, same


def leads(before, behind, thing):
    """The judge: whether a thing is the paper of leading over from one book to the other."""
    worth = told_worth(thing)
    if not is_plain(worth):
        return False
    if worth is not None and not has_grown(before, behind):
        return False
    return same(leading(before, behind, worth), thing)


def leading(before, behind, worth):
    """The paper of leading over from one book's kinds to the other's, with this worth in new fields."""
    changed = [kind for kind in before.kinds() if before.fields(kind) != behind.fields(kind)]
    return tuple([(kind, before.fields(kind), behind.fields(kind), worth) for kind in changed])


def has_grown(before, behind):
    """Whether a kind has more own fields behind than before."""
    return any([len(behind.own(kind)) > len(before.own(kind)) for kind in before.kinds()])


def told_worth(thing):
    """The worth in the first row of what may be a paper, or None where there is no such row."""
    if not isinstance(thing, tuple) or len(thing) == 0:
        return None
    row = thing[0]
    if not isinstance(row, tuple) or len(row) != 4:
        return None
    return row[3]
