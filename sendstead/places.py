"""Places and stops: all rows of a version by their numbers, and the judges of places' and stops' papers."""

from sendstead.rows import rows_of
from sendstead.trees import codes_of
from sendstead.worths import is_number_within, is_row, same


def all_rows(method):
    """All rows of a method, code by code, each as (the code's node, row)."""
    return tuple([(node, row) for node in codes_of(method) for row in rows_of(method, node)])


def place_stands(book, thing):
    """The judge: whether a thing is the paper of a place that remembers what is so now."""
    if not is_row(thing, 4):
        return False
    version, number, kind, what = thing
    if not is_number_within(version, 0, len(book) - 1):
        return False
    of_kind, _, _, tree, _ = book.version_of(version)
    rows = all_rows(tree)
    if not is_number_within(number, 0, len(rows) - 1) or not isinstance(kind, str) or kind not in book.kinds():
        return False
    _, (_, word, *rest) = rows[number]
    if word in ("field", "setfield"):
        fields = book.fields(kind)
        return is_number_within(what, 0, len(fields) - 1) and fields[what] == rest[0]
    if word == "up" and kind != book.parent(of_kind):
        return False
    return word in ("send", "up") and same(book.finds(kind, rest[0]), what) and what is not None


def stops_stand(book, view, thing):
    """The judge: whether a thing is the paper of the rows at which the frames of a view are."""
    _, _, _, _, _, frames, _ = view
    if not is_row(thing, len(frames)):
        return False
    last = len(frames) - 1
    return all([stop_stands(book, frame, at == last, thing[at]) for at, frame in enumerate(frames)])


def stop_stands(book, frame, is_innermost, stop):
    """Whether a thing tells the row at which a frame is."""
    version, node, at, _, _, _, _ = frame
    if not is_row(stop, 3) or not same(stop[:2], (version, node)):
        return False
    _, _, _, tree, _ = book.version_of(version)
    rows = rows_of(tree, node)
    if not is_number_within(stop[2], 0, len(rows) - 1):
        return False
    row = rows[stop[2]]
    words = ("beat",) if is_innermost else ("send", "up")
    return row[0] == at and row[1] in words
