"""Views: whether whatever is handed in is one that a stead of a book can tell."""

from sendstead.books import THING
from sendstead.cells import addresses_among, is_cell, is_cell_word, is_worth, worths_in
from sendstead.forms import STATEMENTS
from sendstead.signs import is_number, is_text
from sendstead.states import ENDED, FAILED, IDLE, MOST_SAID, PAUSED, State, worths_told
from sendstead.trees import METHOD_CODE
from sendstead.worths import is_number_within, is_row, is_whole


def view_stands(book, outlines, room, deep, view):
    """Whether it is a view of a stead with this book, whose versions' trees have these outlines, room and frames."""
    if not is_row(view, 7):
        return False
    status, beats, said, last, fault, frames, cells = view
    if not isinstance(status, str) or status not in (IDLE, PAUSED, ENDED, FAILED):
        return False
    if not is_whole(beats) or beats < 0 or not are_said(book, said) or not is_worth(last):
        return False
    if not is_fault_right(outlines, status, fault) or not are_cells(cells):
        return False
    if not are_frames(frames, deep) or (len(frames) > 0) != (status == PAUSED):
        return False
    return Looks(book, outlines, cells).stand(room, view)


def are_said(book, thing):
    """Whether it is a tuple of texts that may have been said, not too many."""
    if not isinstance(thing, tuple) or len(thing) > MOST_SAID:
        return False
    of_cells = [f"a {kind}" for kind in ("list", "block", THING, *book.kinds())]
    return all([is_said(of_cells, text) for text in thing])


def is_said(of_cells, thing):
    """Whether it is a text with which a worth is said; of cells one of these."""
    return isinstance(thing, str) and (is_text(thing) or thing in of_cells or is_number(thing))


def is_fault_right(outlines, status, fault):
    """Whether it is a fault where the status asks for one, and none elsewhere."""
    if status != FAILED:
        return fault is None
    if not is_row(fault, 3):
        return False
    worth, version, node = fault
    return is_worth(worth) and is_number_within(version, 0, len(outlines) - 1) and outlines[version].has_node(node)


def are_cells(thing):
    """Whether it is a tuple of cells."""
    return isinstance(thing, tuple) and all([is_cell(cell) for cell in thing])


def are_frames(thing, deep):
    """Whether it is a tuple of frames by their forms, not too many."""
    return isinstance(thing, tuple) and len(thing) <= deep and all([is_frame(frame) for frame in thing])


def is_frame(thing):
    """Whether it has the form of a frame."""
    if not is_row(thing, 7):
        return False
    _, _, _, me, surroundings, given, waiting = thing
    if not is_cell_word(me) or not is_cell_word(surroundings):
        return False
    return all([isinstance(part, tuple) and all([is_worth(worth) for worth in part]) for part in (given, waiting)])


def are_numbered(roots, cells):
    """Whether cells are numbered as one comes to them, first by these roots, and one comes to all of them."""
    many = 0
    for at, worths in enumerate([roots, *[worths_in(cell) for cell in cells]]):
        # These are the worths in cell at - 1: one must have come to it ahead of this.
        if many < at:
            return False
        for address in addresses_among(worths):
            if address > many:
                return False
            if address == many:
                many += 1
    return many == len(cells)


class Looks:
    """Looks through the cells and frames of a view, all of which have their forms."""

    def __init__(self, book, outlines, cells):
        self.book = book
        self.outlines = outlines
        self.view_cells = cells
        self.many_fields = {THING: 0}
        for kind in book.kinds():
            self.many_fields[kind] = len(book.fields(kind))

    def stand(self, room, view):
        """Whether the cells are those of the view's roots, all fit together, and they fit into the room."""
        _, _, _, _, _, frames, cells = view
        state = State(self.book, room, 0)
        state.take_view(view)
        if not are_numbered(state.roots(), cells) or state.room.weight > room:
            return False
        if not all([self.is_cell_right(cell) for cell in cells]):
            return False
        last = len(frames) - 1
        if not all([self.is_frame_right(frame, at == last) for at, frame in enumerate(frames)]):
            return False
        return self.are_worths_right(view)

    def sort_at(self, worth):
        """The sort of the cell to which a worth leads."""
        return self.view_cells[worth[1]][0]

    def are_worths_right(self, view):
        """Whether no worth is a cell of surroundings."""
        return all([self.sort_at(worth) != "names" for worth in worths_told(view) if isinstance(worth, tuple)])

    def is_version(self, thing):
        """Whether it is the number of a version."""
        return is_number_within(thing, 0, len(self.outlines) - 1)

    def is_cell_right(self, cell):
        """Whether a thing has its kind's count of worths, and a block is one of a version."""
        if cell[0] == "thing":
            _, kind, worths = cell
            return kind in self.many_fields and len(worths) == self.many_fields[kind]
        if cell[0] != "block":
            return True
        _, version, node, me, surroundings = cell
        if not self.is_version(version) or self.sort_at(me) != "thing":
            return False
        outline = self.outlines[version]
        if node == METHOD_CODE or not outline.has_code(node):
            return False
        return self.are_surroundings_right(outline, outline.code_around(node), surroundings)

    def are_surroundings_right(self, outline, code, surroundings):
        """Whether a worth leads to surroundings of a code of a method, and these outward to those around."""
        while surroundings is not None:
            if self.sort_at(surroundings) != "names":
                return False
            _, worths, surroundings = self.view_cells[surroundings[1]]
            if len(worths) != outline.many_names(code):
                return False
            if code == METHOD_CODE:
                return surroundings is None
            code = outline.code_around(code)
        return False

    def is_frame_right(self, frame, is_innermost):
        """Whether a frame is at a node of its code, with as many worths as it has there."""
        version, node, at, me, surroundings, given, waiting = frame
        if not self.is_version(version) or self.sort_at(me) != "thing":
            return False
        outline = self.outlines[version]
        if not outline.has_code(node) or not outline.has_node(at):
            return False
        tree, code = outline.nodes[at]
        if tree[0] not in (STATEMENTS if is_innermost else ("send", "up")) or code != node:
            return False
        waits = 0 if is_innermost else outline.waits[at]
        if len(given) != len(outline.parameters_by_code[node]) or len(waiting) != waits:
            return False
        return self.are_surroundings_right(outline, node, surroundings)
