"""Sweeps: the judge of a sweep's paper."""

from sendstead.cells import (
    addresses_among, is_cell, is_number_from_0, moved_worths, with_worths, worths_in,
)
from sendstead.worths import is_row, same


def sweep_stands(thing):
    """The judge: whether a thing is the paper of a sweep that lost nothing that can be reached."""
    if not is_row(thing, 4):
        return False
    before, roots, moves, behind = thing
    if not (are_cells_by_addresses(before) and are_rising(roots) and are_moves(moves)):
        return False
    cells = dict(before)
    places = dict(moves)
    if not all([root in places for root in roots]):
        return False
    if not all([is_moved_whole(cells, places, address) for address in places]):
        return False
    return same(moved_cells(cells, places), behind)


def are_rising(thing):
    """Whether it is a tuple of numbers from 0 on, each above the one ahead of it."""
    if not isinstance(thing, tuple) or not all([is_number_from_0(part) for part in thing]):
        return False
    return all([one < other for one, other in zip(thing, thing[1:])])


def are_pairs(thing):
    """Whether it is a tuple of pairs."""
    return isinstance(thing, tuple) and all([is_row(part, 2) for part in thing])


def are_cells_by_addresses(thing):
    """Whether it is a tuple of addresses with cells, rising."""
    if not are_pairs(thing) or not are_rising(tuple([address for address, _ in thing])):
        return False
    return all([is_cell(cell) for _, cell in thing])


def are_moves(thing):
    """Whether it is a tuple of addresses ahead and behind, rising, no address twice on either side."""
    if not are_pairs(thing) or not are_rising(tuple([ahead for ahead, _ in thing])):
        return False
    addresses = [behind for _, behind in thing]
    return all([is_number_from_0(behind) for behind in addresses]) and len(set(addresses)) == len(addresses)


def is_moved_whole(cells, places, address):
    """Whether there is a cell at the address, and all addresses in it are moved, too."""
    return address in cells and all([inner in places for inner in addresses_among(worths_in(cells[address]))])


def moved_cells(cells, places):
    """The moved cells by their new addresses, rising, with new addresses in them."""
    moved = {behind: with_worths(cells[ahead], moved_worths(worths_in(cells[ahead]), places))
             for ahead, behind in places.items()}
    return tuple([(address, moved[address]) for address in sorted(list(moved))])
