"""Rooms: cells by their addresses, what can be reached of them, and what they weigh."""

from sendstead.cells import moved_worths, with_worths, worths_in

# Cells that can't be reached any more are let be up to so many.
MOST_IDLE_CELLS = 1000


def weight_of(cell):
    """What a cell weighs."""
    sort = cell[0]
    if sort == "names":
        return 0
    if sort == "block":
        return 1
    return 1 + len(worths_in(cell))


class Room:
    """The cells of a stead. weight is that of all, also of those that can't be reached any more."""

    def __init__(self, most):
        self.most = most
        self.held = {}
        self.weight = 0
        self.next_address = 0
        self.tidy_at = MOST_IDLE_CELLS

    def put_cell(self, cell):
        """Put a further cell in; the worth that leads to it."""
        address = self.next_address
        self.next_address += 1
        self.held[address] = cell
        self.weight += weight_of(cell)
        return ("cell", address)

    def cell_of(self, worth):
        """The cell to which a worth leads, or None if it is a plain one."""
        if isinstance(worth, tuple):
            return self.held[worth[1]]
        return None

    def change(self, worth, cell):
        """Let the cell to which a worth leads be another one."""
        address = worth[1]
        self.weight += weight_of(cell) - weight_of(self.held[address])
        self.held[address] = cell

    def reached(self, roots):
        """The addresses that can be reached from these worths, numbered in the order in which one comes to them."""
        numbers = {}
        rows = [roots]
        at = 0
        while at < len(rows):
            worths = rows[at]
            for worth in worths:
                if isinstance(worth, tuple) and worth[1] not in numbers:
                    numbers[worth[1]] = len(numbers)
                    rows.append(worths_in(self.held[worth[1]]))
            at += 1
        return numbers

    def weight_reached(self, roots):
        """What weighs all that can be reached from these worths."""
        return self.weight_with(self.held, roots)

    def weight_with(self, cells, roots):
        """What would weigh all that can be reached now, if these were the cells."""
        return sum([weight_of(cells[address]) for address in self.reached(roots)])

    def keep(self, addresses):
        """Let all cells go but those at these addresses."""
        self.fill({address: self.held[address] for address in addresses})

    def fill(self, cells):
        """Let these be the cells by their addresses."""
        self.held = cells
        self.weight = sum([weight_of(cell) for cell in cells.values()])
        self.next_address = 1 + max(list(cells), default=-1)
        self.tidy_at = MOST_IDLE_CELLS + 2 * len(cells)

    def has_many(self):
        """Whether there are so many cells that a look for those that can't be reached pays."""
        return len(self.held) > self.tidy_at

    def told(self):
        """All cells by their addresses, rising."""
        return tuple([(address, self.held[address]) for address in sorted(list(self.held))])

    def moved(self, numbers):
        """The cells at numbered addresses, in their order, with these numbers for the cells in them."""
        return tuple([moved_cell(self.held[address], numbers) for address in numbers])


def moved_cell(cell, places):
    """The cell with the cells in it at the places to which they move."""
    return with_worths(cell, moved_worths(worths_in(cell), places))
