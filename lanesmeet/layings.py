"""Layings: in which bank each cell of a shared array lies."""

from lanesmeet.errors import BadBanks, BadCounts, BadLaying
from lanesmeet.plain import is_between, is_number_tuple, is_rising, is_tuple_of

MOST_BANKS = 32


def grid_of(counts):
    """The rows and columns of a shared array with these counts."""
    return (1, counts[0]) if len(counts) == 1 else counts


def cells_in(counts):
    """All cells of a shared array, ascending."""
    rows, columns = grid_of(counts)
    return [(y, x) for y in range(rows) for x in range(columns)]


def check_counts(counts, banks):
    """Raises BadCounts or BadBanks for what cannot stand there."""
    if not isinstance(counts, tuple) or not 1 <= len(counts) <= 2:
        raise BadCounts("counts are a tuple of one or two numbers")
    if not all([is_between(count, 1, 16) for count in counts]):
        raise BadCounts("counts are numbers from 1 to 16")
    check_banks(banks)


def check_banks(banks):
    """Raises BadBanks for what is no number of banks."""
    if not is_between(banks, 1, MOST_BANKS):
        raise BadBanks("there are from 1 to 32 banks")


def is_laying_of(counts, banks, thing):
    """Whether thing is a laying of an array with these counts."""
    if not is_tuple_of(thing, 2) or not isinstance(thing[0], str):
        return False
    if thing[0] in ("padded", "turned"):
        return is_between(thing[1], 0, MOST_BANKS - 1)
    rows, columns = grid_of(counts)
    if thing[0] != "listed" or not is_tuple_of(thing[1], rows * columns):
        return False
    return all([is_between(bank, 0, banks - 1) for bank in thing[1]])


def check_laying(counts, banks, laying):
    """Raises BadLaying for what is no laying of an array with these counts."""
    if not is_laying_of(counts, banks, laying):
        raise BadLaying("this is no laying")


def is_cell_of(counts, thing):
    """Whether thing is a cell of an array with these counts."""
    rows, columns = grid_of(counts)
    return is_number_tuple(thing, 2) and 0 <= thing[0] < rows and 0 <= thing[1] < columns


def is_lot(counts, thing):
    """Whether thing is an ascending tuple of different cells of an array with these counts."""
    return isinstance(thing, tuple) and all([is_cell_of(counts, cell) for cell in thing]) and is_rising(thing)


def bank_at(counts, banks, laying, cell):
    """The bank in which a cell lies."""
    _, columns = grid_of(counts)
    word, told = laying
    y, x = cell
    if word == "padded":
        return (y * (columns + told) + x) % banks
    if word == "turned":
        return (y * columns + (x + told * y) % columns) % banks
    return told[y * columns + x]


def cost_of(counts, banks, laying, lot):
    """The greatest number of cells of a lot that lie in one bank."""
    found = {}
    for cell in lot:
        bank = bank_at(counts, banks, laying, cell)
        found[bank] = found.get(bank, 0) + 1
    return max(list(found.values()), default=0)


def first_clash(counts, banks, laying, lot):
    """The first two cells of a lot that lie in one bank, None if there are none."""
    told = [bank_at(counts, banks, laying, cell) for cell in lot]
    for at, bank in enumerate(told):
        if bank in told[at + 1:]:
            return lot[at], lot[told.index(bank, at + 1)]
    return None
