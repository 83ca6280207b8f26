"""Whether a plan fits a nest, and the kernels that are made if it does."""

from lanesmeet.cases import points_of
from lanesmeet.errors import LaneError
from lanesmeet.forms import place_of
from lanesmeet.kernels import Kernel
from lanesmeet.nests import SINGLE, items_of, piece_points
from lanesmeet.weaving import Copy, Layout, Weaver, full_form, takes_from


class Woven:
    """A kernel made of a nest, with what wove it, its sheet, the cut, and the cut's points by those of the nest."""

    def __init__(self, layout, weaver, kernel, sheet, cut, cut_points):
        self.layout = layout
        self.weaver = weaver
        self.kernel = kernel
        self.sheet = sheet
        self.cut = cut
        self.cut_points = cut_points


def has_doubled_axis(nest, layout):
    """Whether two loops around one statement have roles of one axis."""
    for loops in nest.loops:
        axes = [layout.roles[outer][1] for _, _, outer in loops if len(layout.roles[outer]) == 2]
        if len(set(axes)) < len(axes):
            return True
    return False


def fits_blocks(nest, layout):
    """Whether the blocks name sizes of the nest, and each piece is laid out over all blocks that there are."""
    for axis, form in enumerate(layout.blocks):
        if form[0] == "tiles" and form[1] not in [size[0] for size in nest.sizes]:
            return False
        for piece in piece_points(nest):
            roles = [layout.roles[outer] for _, _, outer in nest.loops[piece]]
            if form != SINGLE and ("block", axis) not in roles:
                return False
    return True


def fits_gaps(nest, layout):
    """Whether each gap is one of a block of the nest."""
    items = items_of(nest)
    for seat, number in layout.gaps:
        if seat not in items or not 0 <= number <= len(items[seat]):
            return False
    return True


def tile_of_copy(layout, point, outers):
    """The tile of a coordinate of a copy whose forms name the loops of these points; None if it has none."""
    if point is not None and all([outer == point for outer in outers]):
        return "loop"
    roles = [layout.roles[outer] for outer in outers]
    if roles[0][0] == "block" and all([role == roles[0] for role in roles]):
        return roles[0]
    return None


def coordinate_of(nest, layout, point, takes, at):
    """A triple for a coordinate of a copy: tile, the least and the greatest number; None if it does not hold."""
    outers = []
    numbers = []
    for take in takes:
        form = full_form(nest, place_of(nest.statements[take])[1][at])
        if form[0] != "turn":
            return None
        outers.append([outer for _, name, outer in nest.loops[take] if name == form[1]][0])
        numbers.append(form[2])
    tile = tile_of_copy(layout, point, outers)
    if tile is None:
        return None
    form = ("turn", nest.statements[point][1], 0) if tile == "loop" else ("block", tile[1], 0)
    return form, min(numbers), max(numbers)


def copy_for(nest, layout, array, point):
    """The copy of an array, None if it does not hold."""
    counts = [names for _, name, names in nest.arrays if name == array]
    takes = takes_from(nest, array)
    if not counts or not takes:
        return None
    if point is not None:
        if point not in layout.roles or layout.roles[point][0] == "block":
            return None
        if not all([point in [outer for _, _, outer in nest.loops[take]] for take in takes]):
            return None
    if array in [place_of(nest.statements[own])[0] for own in points_of(nest, ("put", "add"))]:
        return None
    told = [coordinate_of(nest, layout, point, takes, at) for at in range(len(counts[0]))]
    if None in told:
        return None
    axes = [0, 1] if len(told) == 2 else [0 if layout.lanes[1] == 1 else 1]
    tiles = [tile for tile, _, _ in told]
    lows = [low for _, low, _ in told]
    return Copy(array, point, tiles, lows, [layout.width + high - low for _, low, high in told], axes)


def copies_for(nest, layout):
    """The copies, None if one of them does not hold."""
    found = [copy_for(nest, layout, array, point) for array, point in layout.copies]
    return None if any([copy is None for copy in found]) else found


def woven_kernel(nest, layout, copies, sheet):
    """The kernel of a sheet, None if there is no such."""
    sizes = tuple([(size[0], tuple(range(layout.width))) for size in nest.sizes])
    arrays = nest.arrays + tuple([("shared", copy.array + "s", tuple(copy.counts)) for copy in copies])
    try:
        return Kernel(layout.width, layout.lanes, layout.blocks, sizes, (), arrays, sheet.statements)
    except LaneError:
        return None


def cut_layout(nest, width):
    """The layout of a cut: one lane, one block, all loops as turns."""
    roles = {point: ("turn",) for point in points_of(nest, ("long",))}
    return Layout(width, (1, 1), (SINGLE, SINGLE), roles, (), ())


def cut_of(nest, width):
    """A pair: the cut, None if it is no kernel, and its points by those of the nest. It is kept with the nest."""
    key = ("cut", width)
    if key not in nest.held:
        layout = cut_layout(nest, width)
        sheet = Weaver(nest, layout, []).whole_sheet()
        points = {old: at for at, old in enumerate(sheet.olds) if isinstance(old, int)}
        nest.held[key] = woven_kernel(nest, layout, [], sheet), points
    return nest.held[key]


def misfit_ahead(nest, layout):
    """The first word that tells why a plan does not fit, but for "copies" and "kernel"; None if there is none."""
    if sorted(layout.roles) != points_of(nest, ("long",)):
        return "roles"
    if any([layout.width % count != 0 for count in layout.lanes]):
        return "lanes"
    if has_doubled_axis(nest, layout):
        return "ways"
    if not fits_blocks(nest, layout):
        return "blocks"
    return None if fits_gaps(nest, layout) else "gaps"


def weave(nest, layout):
    """A pair: the first word that tells why a plan does not fit, or None; and what is made if there is none."""
    word = misfit_ahead(nest, layout)
    if word is not None:
        return word, None
    copies = copies_for(nest, layout)
    if copies is None:
        return "copies", None
    weaver = Weaver(nest, layout, copies)
    sheet = weaver.whole_sheet()
    kernel = woven_kernel(nest, layout, copies, sheet)
    cut, points = cut_of(nest, layout.width)
    if kernel is None or cut is None:
        return "kernel", None
    return None, Woven(layout, weaver, kernel, sheet, cut, points)


def first_misfit(nest, plan):
    """The first word that tells why a plan does not fit, None if it fits."""
    word, _ = weave(nest, plan)
    return word
