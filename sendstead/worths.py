"""Worths: what may be handed in as one, and when two things are the same."""

from sendstead.signs import BIG, is_text


def sort_of(thing):
    """Of which kind a thing is; "other" where nothing is told of such."""
    if thing is None:
        return "none"
    # Python takes truths for numbers, so they are asked for first.
    if isinstance(thing, bool):
        return "truth"
    if isinstance(thing, int):
        return "number"
    if isinstance(thing, str):
        return "text"
    if isinstance(thing, tuple):
        return "tuple"
    return "other"


def is_number_within(thing, least, most):
    """Whether it is a number within these bounds."""
    return is_whole(thing) and least <= thing <= most


def is_whole(thing):
    """Whether it is a number, which a truth isn't."""
    return isinstance(thing, int) and not isinstance(thing, bool)


def is_row(thing, length):
    """Whether it is a tuple of this length."""
    return isinstance(thing, tuple) and len(thing) == length


def is_plain(thing):
    """Whether it is a worth that is no cell."""
    if thing is None or isinstance(thing, bool):
        return True
    if isinstance(thing, int):
        return -BIG < thing < BIG
    return isinstance(thing, str) and is_text(thing)


def same(one, other):
    """Whether two things are the same, kind for kind: 1 isn't true, and a list is no tuple."""
    sort = sort_of(one)
    if sort == "other" or sort != sort_of(other):
        return False
    if sort == "tuple":
        return len(one) == len(other) and all([same(a, b) for a, b in zip(one, other)])
    return one == other
