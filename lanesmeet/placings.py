"""Placings: cells laid into banks so that two ways of taking them both cost as little as can be.

Each lot is cut into pieces of as many cells as there are banks, and a rest. A cell ties its piece of the first
list to that of the second one; the cells of a piece get unlike banks.
"""

from lanesmeet.errors import BadLots
from lanesmeet.layings import cells_in, check_counts, is_lot
from lanesmeet.plain import is_listing


def check_apart(counts, told, at):
    """Raises BadLots(at) for what is no list of lots that are apart."""
    if not is_listing(told) or not all([is_lot(counts, lot) for lot in told]):
        raise BadLots(at)
    cells = [cell for lot in told for cell in lot]
    if len(set(cells)) != len(cells):
        raise BadLots(at)


def pieces_by_cell(told, banks, side):
    """For each cell of the lots the name of its piece: a triple (side, number of the lot, number of the piece)."""
    found = {}
    for number, lot in enumerate(told):
        for at, cell in enumerate(lot):
            found[cell] = side, number, at // banks
    return found


class Banker:
    """Banks given to cells one by one. ends are the pieces of a cell, held tells for each piece its cells by banks."""

    def __init__(self, banks, ends):
        self.banks = banks
        self.ends = ends
        self.held = {piece: {} for cell in ends for piece in ends[cell]}

    def free_bank(self, piece):
        """The least bank that no cell of a piece has yet."""
        return min([bank for bank in range(self.banks) if bank not in self.held[piece]])

    def way_from(self, piece, bank, other):
        """The cells on the way from a piece that goes along cells of the one bank and of the other by turns."""
        found = []
        while bank in self.held[piece]:
            cell = self.held[piece][bank]
            found.append(cell)
            piece = [end for end in self.ends[cell] if end != piece][0]
            bank, other = other, bank
        return found

    def exchange(self, piece, bank, other):
        """Exchanges two banks along the way from a piece."""
        way = self.way_from(piece, bank, other)
        banks = [bank if at % 2 == 0 else other for at in range(len(way))]
        for cell, old in zip(way, banks):
            for end in self.ends[cell]:
                del self.held[end][old]
        for cell, old in zip(way, banks):
            for end in self.ends[cell]:
                self.held[end][other if old == bank else bank] = cell

    def place(self, cell):
        """Gives a cell a bank that no other cell of its pieces has."""
        one, other = self.ends[cell]
        bank = self.free_bank(one)
        # The way from the other end never comes to the one: there it would come by the bank that is free.
        if bank in self.held[other]:
            self.exchange(other, bank, self.free_bank(other))
        for end in self.ends[cell]:
            self.held[end][bank] = cell


def evenly(counts, banks, first, second):
    """A laying in which each lot of both lists costs its number of cells divided by banks, rounded up."""
    check_counts(counts, banks)
    check_apart(counts, first, 0)
    check_apart(counts, second, 1)
    rows = pieces_by_cell(first, banks, 0)
    columns = pieces_by_cell(second, banks, 1)
    cells = cells_in(counts)
    # A cell that is in no lot of a list has a piece of its own there.
    ends = {cell: (rows.get(cell, (0, cell)), columns.get(cell, (1, cell))) for cell in cells}
    banker = Banker(banks, ends)
    for cell in cells:
        banker.place(cell)
    found = {}
    for piece in banker.held:
        for bank, cell in banker.held[piece].items():
            found[cell] = bank
    return "listed", tuple([found[cell] for cell in cells])
