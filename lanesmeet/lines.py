"""Lines of far memory: the line of a cell, and what crews touch at given sizes."""

from lanesmeet.cases import DEEDS, cell_at, check_at
from lanesmeet.costs import rows_at
from lanesmeet.crews import check_width
from lanesmeet.edging import array_of
from lanesmeet.errors import BadCell, BadLayout, BadSpan
from lanesmeet.kernels import check_kernel
from lanesmeet.machine import is_far_cell
from lanesmeet.plain import has_just_keys, is_between, is_tuple_of


def far_sizes(kernel):
    """The names of the sizes of all far arrays, by the arrays' names."""
    return {name: names for sort, name, names in kernel.arrays if sort == "far"}


def check_lines(kernel, layout, span):
    """Raises BadLayout or BadSpan for what cannot stand there."""
    arrays = far_sizes(kernel)
    if not has_just_keys(layout, list(arrays)):
        raise BadLayout("a layout is a dict from just the far arrays")
    for name in layout:
        if not is_between(layout[name], 0, len(arrays[name]) - 1):
            raise BadLayout("a layout tells an axis of each array")
    if not is_between(span, 1, kernel.width) or kernel.width % span != 0:
        raise BadSpan("a span is a number that divides the width")


def places_on(positions, axis, span):
    """The positions, that of the axis being told by its line."""
    found = list(positions)
    found[axis] = found[axis][0], found[axis][1] // span
    return tuple(found)


def is_far(kernel, thing):
    """Whether thing is a far cell of the kernel by its form."""
    arrays = far_sizes(kernel)
    if not is_tuple_of(thing, 2) or not isinstance(thing[0], str) or thing[0] not in arrays:
        return False
    return is_far_cell(kernel, thing, arrays[thing[0]])


def line_of(kernel, layout, span, cell):
    """The line of a far cell."""
    check_kernel(kernel)
    check_lines(kernel, layout, span)
    if not is_far(kernel, cell):
        raise BadCell("this is no far cell of the kernel")
    return cell[0], places_on(cell[1], layout[cell[0]], span)


def is_far_deed(kernel, point):
    """Whether a statement is a take, put or add at a far array."""
    return kernel.statements[point][0] in DEEDS and array_of(kernel, point)[0] == "far"


def touches_at(kernel, width, sizes, layout, span):
    """The touches of a width at these sizes, ascending."""
    check_kernel(kernel)
    check_width(kernel, width)
    check_at(kernel, sizes)
    check_lines(kernel, layout, span)
    rows = rows_at(kernel, width, sizes)
    found = {}
    for row in rows:
        block, _, (point, turns) = row
        if is_far_deed(kernel, point):
            for lane in rows[row]:
                array, positions = cell_at(kernel, sizes, (point, block, lane, turns))
                found[(row, (array, places_on(positions, layout[array], span)))] = True
    return sorted(found)
