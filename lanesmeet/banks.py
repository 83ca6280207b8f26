"""Banks of shared memory: the turns that they take for what crews come to, at all sizes."""

from lanesmeet.accesses import access_told, greatest_lots, grid_cell
from lanesmeet.cases import DEEDS, cell_at, check_at, is_block, is_instance, is_point_of, points_of, stands_there
from lanesmeet.crews import check_width, crew_of, crews_of
from lanesmeet.edging import array_of
from lanesmeet.errors import BadAccess, BadArray, BadCell, BadLaying, BadLot, BadPoint
from lanesmeet.forms import are_sizes_at, place_of
from lanesmeet.kernels import check_kernel
from lanesmeet.layings import bank_at, check_banks, check_counts, check_laying, cost_of, first_clash, grid_of
from lanesmeet.layings import is_cell_of, is_laying_of, is_lot
from lanesmeet.machine import all_lists
from lanesmeet.plain import has_bool, has_just_keys, is_between, is_tuple_of


def is_laying(counts, banks, thing):
    """Whether thing is a laying of an array with these counts in so many banks."""
    check_counts(counts, banks)
    return is_laying_of(counts, banks, thing)


def bank_of(counts, banks, laying, cell):
    """The bank in which a cell lies."""
    check_counts(counts, banks)
    check_laying(counts, banks, laying)
    if not is_cell_of(counts, cell):
        raise BadCell("this is no cell of the array")
    return bank_at(counts, banks, laying, cell)


def check_shared_point(kernel, point):
    """Raises BadKernel, or BadPoint for no point of a take, put or add at a shared array."""
    check_kernel(kernel)
    if not is_point_of(kernel, point, DEEDS) or array_of(kernel, point)[0] != "shared":
        raise BadPoint("this is no point of a take, put or add at a shared array")


def lanes_there(kernel, point, width, access):
    """The lanes of an access for which the instance is there."""
    sizes, block, crew, turns = access
    lanes = crews_of(kernel, width)[crew]
    return [lane for lane in lanes if stands_there(kernel, sizes, (point, block, lane, turns))]


def check_access(kernel, point, width, access):
    """Raises BadAccess for what is no access of the point."""
    if not is_tuple_of(access, 4) or not are_sizes_at(kernel.sizes, kernel.promises, access[0]):
        raise BadAccess("this is no tuple of sizes, a block, a crew and turns")
    sizes, block, crew, turns = access
    if not is_block(kernel, sizes, block) or not is_between(crew, 0, len(crews_of(kernel, width)) - 1):
        raise BadAccess("there is no such block or crew")
    if not is_instance(kernel, (point, block, (0, 0), turns)) or not lanes_there(kernel, point, width, access):
        raise BadAccess("no lane of the crew has the instance")


def cells_for(kernel, point, sizes, instances):
    """The lot of instances of a point: the cells that are not beyond, ascending, each once."""
    counts = array_of(kernel, point)[2]
    cells = [grid_cell(counts, cell_at(kernel, sizes, instance)[1]) for instance in instances]
    return tuple(sorted(set([cell for cell in cells if cell is not None])))


def lot_of(kernel, point, width, access):
    """The lot of an access."""
    check_shared_point(kernel, point)
    check_width(kernel, width)
    check_access(kernel, point, width, access)
    sizes, block, _, turns = access
    lanes = lanes_there(kernel, point, width, access)
    return cells_for(kernel, point, sizes, [(point, block, lane, turns) for lane in lanes])


def lots(kernel, point, width):
    """The greatest lots of a point, ascending."""
    check_shared_point(kernel, point)
    check_width(kernel, width)
    return list(greatest_lots(kernel, point, width))


def access_for(kernel, point, width, lot):
    """An access that has one of the greatest lots of a point."""
    check_shared_point(kernel, point)
    check_width(kernel, width)
    found = greatest_lots(kernel, point, width)
    if not isinstance(lot, tuple) or has_bool(lot) or lot not in list(found):
        raise BadLot("this is none of the greatest lots")
    return access_told(kernel, point, found[lot])


def cost(counts, banks, laying, lot):
    """How many turns the banks take for a lot."""
    check_counts(counts, banks)
    check_laying(counts, banks, laying)
    if not is_lot(counts, lot):
        raise BadLot("this is no ascending tuple of different cells")
    return cost_of(counts, banks, laying, lot)


def shared_counts(kernel):
    """The counts of all shared arrays, by their names."""
    return {name: counts for sort, name, counts in kernel.arrays if sort == "shared"}


def check_banked(kernel, array, width, banks):
    """Raises BadKernel, BadArray, BadWidth or BadBanks for what cannot stand there."""
    check_kernel(kernel)
    if not isinstance(array, str) or array not in shared_counts(kernel):
        raise BadArray("this is no name of a shared array")
    check_width(kernel, width)
    check_banks(banks)


def points_at(kernel, array):
    """The points of all takes, puts and adds at an array."""
    return [point for point in points_of(kernel, DEEDS) if place_of(kernel.statements[point])[0] == array]


def array_lots(kernel, array, width):
    """The greatest lots of all points at an array, as pairs (point, lot), ascending."""
    points = points_at(kernel, array)
    return [(point, lot) for point in points for lot in greatest_lots(kernel, point, width)]


def least_clash(counts, banks, laying, found):
    """The least clash of the pairs (point, lot), ascending; None if there is none."""
    for point, lot in found:
        cells = first_clash(counts, banks, laying, lot)
        if cells is not None:
            return (point, lot) + cells
    return None


def clash(kernel, array, width, banks, laying):
    """The least clash of a shared array, None if at no sizes an access takes more than one turn."""
    check_banked(kernel, array, width, banks)
    counts = shared_counts(kernel)[array]
    check_laying(counts, banks, laying)
    return least_clash(counts, banks, laying, array_lots(kernel, array, width))


def worst(kernel, array, width, banks, laying):
    """The greatest cost of a lot at a shared array, 0 if there is no lot."""
    check_banked(kernel, array, width, banks)
    counts = shared_counts(kernel)[array]
    check_laying(counts, banks, laying)
    costs = [cost_of(counts, banks, laying, lot) for _, lot in array_lots(kernel, array, width)]
    return max(costs, default=0)


def check_layings(kernel, banks, layings):
    """Raises BadLaying for what is no dict from just the shared arrays to layings."""
    counts = shared_counts(kernel)
    if not has_just_keys(layings, list(counts)):
        raise BadLaying("this is no dict from just the shared arrays")
    for name in counts:
        check_laying(counts[name], banks, layings[name])


def turns_taken(kernel, sizes, width, banks, layings):
    """The sum of the costs of the lots of all accesses at these sizes."""
    check_at(kernel, sizes)
    check_width(kernel, width)
    check_banks(banks)
    check_layings(kernel, banks, layings)
    lists = all_lists(kernel, sizes)
    accesses = {}
    for block, lane in lists:
        for instance in lists[(block, lane)]:
            point, _, _, turns = instance
            if is_shared_deed(kernel, point):
                key = point, block, crew_of(kernel, width, lane), turns
                accesses.setdefault(key, []).append(instance)
    total = 0
    for key in accesses:
        _, name, counts = array_of(kernel, key[0])
        total = total + cost_of(counts, banks, layings[name], cells_for(kernel, key[0], sizes, accesses[key]))
    return total


def is_shared_deed(kernel, point):
    """Whether a statement is a take, put or add at a shared array."""
    return kernel.statements[point][0] in DEEDS and array_of(kernel, point)[0] == "shared"


def paddings(kernel, array, width, banks):
    """For all paddings below banks the least clash, or None."""
    check_banked(kernel, array, width, banks)
    counts = shared_counts(kernel)[array]
    found = array_lots(kernel, array, width)
    return {number: least_clash(counts, banks, ("padded", number), found) for number in range(banks)}


def turnings(kernel, array, width, banks):
    """For all turnings below the columns the least clash, or None."""
    check_banked(kernel, array, width, banks)
    counts = shared_counts(kernel)[array]
    found = array_lots(kernel, array, width)
    return {number: least_clash(counts, banks, ("turned", number), found) for number in range(grid_of(counts)[1])}
