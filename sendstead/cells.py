"""Cells: their forms, and the worths that stand in them."""

from sendstead.bounds import MOST_FIELDS, MOST_NAMES, MOST_WORTHS_OF_LIST
from sendstead.signs import is_kind_name
from sendstead.worths import is_plain, is_row, is_whole


def is_number_from_0(thing):
    """Whether it is a number from 0 on."""
    return is_whole(thing) and thing >= 0


def is_cell_word(thing):
    """Whether it tells a cell: ("cell", number)."""
    return is_row(thing, 2) and is_text_of(thing[0], "cell") and is_number_from_0(thing[1])


def is_text_of(thing, text):
    """Whether it is this text."""
    return isinstance(thing, str) and thing == text


def is_worth(thing):
    """Whether it is a worth, plain or a cell."""
    return is_cell_word(thing) if isinstance(thing, tuple) else is_plain(thing)


def are_worths(thing, most):
    """Whether it is a tuple of worths, not more than so many."""
    return isinstance(thing, tuple) and len(thing) <= most and all([is_worth(worth) for worth in thing])


def is_cell(thing):
    """Whether it has the form of a cell of the room."""
    if not isinstance(thing, tuple) or len(thing) == 0:
        return False
    if is_text_of(thing[0], "thing"):
        return len(thing) == 3 and is_kind_word(thing[1]) and are_worths(thing[2], MOST_FIELDS)
    if is_text_of(thing[0], "list"):
        return len(thing) == 2 and are_worths(thing[1], MOST_WORTHS_OF_LIST)
    if is_text_of(thing[0], "block"):
        return len(thing) == 5 and all([is_number_from_0(part) for part in thing[1:3]]) and are_cell_words(thing[3:])
    if is_text_of(thing[0], "names"):
        return len(thing) == 3 and are_worths(thing[1], MOST_NAMES) and (thing[2] is None or is_cell_word(thing[2]))
    return False


def are_cell_words(things):
    """Whether each of them tells a cell."""
    return all([is_cell_word(thing) for thing in things])


def is_kind_word(thing):
    """Whether it is a text that is a kind's name."""
    return isinstance(thing, str) and is_kind_name(thing)


def worths_in(cell):
    """What stands in a cell, in order, cells and plain worths: of a block its self and its surroundings."""
    sort = cell[0]
    if sort == "thing":
        return cell[2]
    if sort == "list":
        return cell[1]
    if sort == "block":
        return cell[3:]
    return (*cell[1], cell[2])


def with_worths(cell, worths):
    """The cell with other worths in it, as many as it has."""
    sort = cell[0]
    if sort == "thing":
        return ("thing", cell[1], worths)
    if sort == "list":
        return ("list", worths)
    if sort == "block":
        return (*cell[:3], *worths)
    return ("names", worths[:-1], worths[-1])


def addresses_among(worths):
    """The addresses of the cells among worths, in order, each as often as it stands there."""
    return [worth[1] for worth in worths if isinstance(worth, tuple)]


def moved_worths(worths, moves):
    """The worths with the cells among them at the addresses to which they move."""
    return tuple([("cell", moves[worth[1]]) if isinstance(worth, tuple) else worth for worth in worths])
