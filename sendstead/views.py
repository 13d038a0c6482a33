"""Views: whether whatever is handed in is one that a stead of a book can tell."""

from sendstead.books import THING
from sendstead.cells import (
    addresses_among, is_cell, is_cell_word, is_worth, worths_in,
)
from sendstead.forms import STATEMENTS, is_code
from sendstead.plans import Plan
from sendstead.signs import is_number, is_text
from sendstead.states import ENDED, FAILED, IDLE, MOST_SAID, PAUSED, State
from sendstead.trees import METHOD_CODE, code_within, names_of, nodes_of, parameters_of
from sendstead.worths import is_number_within, is_row, sort_of


def view_stands(book, room, deep, view):
    """Whether it is a view of a stead with this book, room and number of frames."""
    if not is_row(view, 7):
        return False
    status, beats, said, last, fault, frames, cells = view
    if not isinstance(status, str) or status not in (IDLE, PAUSED, ENDED, FAILED):
        return False
    if sort_of(beats) != "number" or beats < 0 or not are_said(book, said) or not is_worth(last):
        return False
    if not is_fault_right(book, status, fault) or not are_cells(cells):
        return False
    if not are_frames(frames, deep) or (len(frames) > 0) != (status == PAUSED):
        return False
    return Looks(book, cells).stand(room, view)


def are_said(book, thing):
    """Whether it is a tuple of texts that may have been said, not too many."""
    return isinstance(thing, tuple) and len(thing) <= MOST_SAID and all([is_said(book, text) for text in thing])


def is_said(book, thing):
    """Whether it is a text with which a worth is said."""
    if not isinstance(thing, str):
        return False
    kinds = [f"a {kind}" for kind in ("list", "block", THING, *book.kinds())]
    return thing in kinds or is_text(thing) or is_number(thing)


def is_fault_right(book, status, fault):
    """Whether it is a fault where the status asks for one, and none elsewhere."""
    if status != FAILED:
        return fault is None
    if not is_row(fault, 3):
        return False
    worth, version, node = fault
    if not is_worth(worth) or not is_version_of(book, version):
        return False
    return is_number_within(node, 0, many_nodes_of(book, version) - 1)


def is_version_of(book, thing):
    """Whether it is the number of a version of the book."""
    return is_number_within(thing, 0, len(book) - 1)


def many_nodes_of(book, version):
    """How many nodes a version has."""
    _, _, _, tree, _ = book.version_of(version)
    return len(nodes_of(tree))


def are_cells(thing):
    """Whether it is a tuple of cells."""
    return isinstance(thing, tuple) and all([is_cell(cell) for cell in thing])


def are_frames(thing, deep):
    """Whether it is a tuple of frames by their forms, not too many."""
    return isinstance(thing, tuple) and len(thing) <= deep and all([is_frame(frame) for frame in thing])


def is_frame(thing):
    """Whether it has the form of a frame."""
    if not is_row(thing, 7):
        return False
    _, _, _, me, surroundings, given, waiting = thing
    if not is_cell_word(me) or not is_cell_word(surroundings):
        return False
    return all([isinstance(part, tuple) and all([is_worth(worth) for worth in part]) for part in (given, waiting)])


class Looks:
    """Looks through the cells and frames of a view, all of which have their forms."""

    def __init__(self, book, cells):
        self.book = book
        self.view_cells = cells

    def stand(self, room, view):
        """Whether the cells are those of the view's roots, all fit together, and they fit into the room."""
        _, _, _, _, _, frames, _ = view
        state = State(self.book, room, 0)
        state.take_view(view)
        worths = [worth for cell in self.view_cells for worth in worths_in(cell)]
        if not all([address < len(self.view_cells) for address in addresses_among([*state.roots(), *worths])]):
            return False
        if state.room.reached(state.roots()) != list(range(len(self.view_cells))) or state.room.weight > room:
            return False
        if not all([self.is_cell_right(cell) for cell in self.view_cells]):
            return False
        last = len(frames) - 1
        if not all([self.is_frame_right(frame, at == last) for at, frame in enumerate(frames)]):
            return False
        return self.are_worths_right(view)

    def sort_at(self, worth):
        """The sort of the cell to which a worth leads."""
        return self.view_cells[worth[1]][0]

    def are_worths_right(self, view):
        """Whether no worth is a cell of surroundings."""
        _, _, _, last, fault, frames, _ = view
        worths = [last]
        if fault is not None:
            worths.append(fault[0])
        for _, _, _, _, _, given, waiting in frames:
            worths.extend(given + waiting)
        for cell in self.view_cells:
            if cell[0] != "block":
                worths.extend(cell[1] if cell[0] == "names" else worths_in(cell))
        return all([self.sort_at(worth) != "names" for worth in worths if isinstance(worth, tuple)])

    def is_cell_right(self, cell):
        """Whether a thing has its kind's count of worths, and a block is one of a version."""
        if cell[0] == "thing":
            _, kind, worths = cell
            if kind == THING:
                return len(worths) == 0
            return kind in self.book.kinds() and len(worths) == len(self.book.fields(kind))
        if cell[0] != "block":
            return True
        _, version, node, me, surroundings = cell
        if not is_version_of(self.book, version) or self.sort_at(me) != "thing":
            return False
        _, _, _, tree, _ = self.book.version_of(version)
        if node == METHOD_CODE or not is_code(tree, node):
            return False
        return self.are_surroundings_right(tree, code_within(tree, node), surroundings)

    def are_surroundings_right(self, tree, code, surroundings):
        """Whether a worth leads to surroundings of a code of a method, and these outward to those around."""
        while surroundings is not None:
            if self.sort_at(surroundings) != "names":
                return False
            _, worths, surroundings = self.view_cells[surroundings[1]]
            if code == METHOD_CODE:
                return len(worths) == len(names_of(tree)) and surroundings is None
            if len(worths) != len(parameters_of(tree, code)):
                return False
            code = code_within(tree, code)
        return False

    def is_frame_right(self, frame, is_innermost):
        """Whether a frame is at a node of its code, with as many worths as it has there."""
        version, node, at, me, surroundings, given, waiting = frame
        if not is_version_of(self.book, version) or self.sort_at(me) != "thing":
            return False
        _, _, _, tree, _ = self.book.version_of(version)
        if not is_code(tree, node) or not is_number_within(at, 0, many_nodes_of(self.book, version) - 1):
            return False
        sorts = STATEMENTS if is_innermost else ("send", "up")
        if nodes_of(tree)[at][0] not in sorts or code_within(tree, at) != node:
            return False
        waits = 0 if is_innermost else Plan(tree).waits[at]
        if len(given) != len(parameters_of(tree, node)) or len(waiting) != waits:
            return False
        return self.are_surroundings_right(tree, node, surroundings)
