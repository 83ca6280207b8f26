"""Nests: kernels of one lane, made of loops, ifs and pieces, each of which ends with a put or an add."""

from lanesmeet.bodies import words_read
from lanesmeet.cases import DEEDS, cell_at, check_at, is_instance
from lanesmeet.errors import BadLine, BadNest
from lanesmeet.kernels import Kernel
from lanesmeet.meaning import lane_list
from lanesmeet.parts import forms_in, smalls_in
from lanesmeet.plain import is_listing
from lanesmeet.rewriting import sides_of
from lanesmeet.seats import names_lane

SINGLE = ("none", None, 1)
ORIGIN = (0, 0)
NEST_WORDS = ("take", "let", "put", "add", "long", "if")


def has_nest_head(kernel):
    """Whether what stands ahead of the body of a kernel is that of a nest."""
    if kernel.width != 1 or kernel.lanes != (1, 1) or kernel.blocks != (SINGLE, SINGLE) or kernel.promises:
        return False
    return all([sort == "far" for sort, _, _ in kernel.arrays])


def is_nest_statement(statement):
    """Whether a statement, by itself, may stand in a nest."""
    if statement[0] not in NEST_WORDS or any([form[0] == "block" for form in forms_in(statement)]):
        return False
    return not any([names_lane(small) for small in smalls_in(statement)])


def items_in(kernel, points):
    """The items of a block, each as the tuple of the points of its statements there; None if it has others."""
    found = []
    run = ()
    given = []
    for point in points:
        statement = kernel.statements[point]
        if statement[0] in ("long", "if"):
            if run:
                return None
            found.append((point,))
            continue
        if any([word not in given for word in words_read(statement)]):
            return None
        run = run + (point,)
        given = given + [statement[1]]
        if statement[0] in ("put", "add"):
            found.append(run)
            run = ()
            given = []
    return None if run else found


def new_items(kernel):
    """The items of each block of a kernel, by the block's seat; None if this is no nest."""
    if not has_nest_head(kernel) or not all([is_nest_statement(statement) for statement in kernel.statements]):
        return None
    found = {(): items_in(kernel, kernel.tops)}
    for point, statement in enumerate(kernel.statements):
        for side, points in zip(sides_of(statement), kernel.inner[point]):
            found[(point, side)] = items_in(kernel, points)
    return None if any([found[seat] is None for seat in found]) else found


def items_of(kernel):
    """As new_items. They are kept with the kernel, so nobody may change them."""
    if "items" not in kernel.held:
        kernel.held["items"] = new_items(kernel)
    return kernel.held["items"]


def is_nest(thing):
    """Whether thing is a nest."""
    return isinstance(thing, Kernel) and items_of(thing) is not None


def check_nest(nest):
    """Raises BadNest for what is no nest."""
    if not is_nest(nest):
        raise BadNest("this is no nest")


def piece_points(nest):
    """The points of each piece, by the piece's name, ascending."""
    items = items_of(nest)
    pieces = [run for seat in items for run in items[seat] if nest.statements[run[-1]][0] in ("put", "add")]
    return {run[-1]: run for run in sorted(pieces)}


def pieces_of(nest):
    """The names of all pieces, ascending."""
    check_nest(nest)
    return tuple(list(piece_points(nest)))


def piece_names(nest):
    """The name of the piece in which each take, put and add stands."""
    pieces = piece_points(nest)
    return {point: name for name in pieces for point in pieces[name] if nest.statements[point][0] in DEEDS}


def deeds_along(nest, sizes):
    """All deeds at these sizes, in the nest's own order."""
    return [one for one in lane_list(nest, sizes, ORIGIN, ORIGIN) if nest.statements[one[0]][0] in DEEDS]


def check_nest_at(nest, sizes):
    """Raises BadNest for what is no nest, BadSizesAt for what are no sizes of it."""
    check_nest(nest)
    check_at(nest, sizes)


def is_line(nest, thing, deeds):
    """Whether a list is one of all deeds, each once."""
    if len(thing) != len(deeds):
        return False
    left = {deed: True for deed in deeds}
    for deed in thing:
        if not is_instance(nest, deed) or deed not in left:
            return False
        left.pop(deed)
    return True


def outcome_along(nest, sizes, line):
    """The outcome if the deeds are done in the order of a line."""
    check_nest_at(nest, sizes)
    if not is_listing(line) or not is_line(nest, line, deeds_along(nest, sizes)):
        raise BadLine("this is no list of all deeds, each once")
    cells = {}
    seen = {}
    for deed in line:
        cell = cell_at(nest, sizes, deed)
        word = nest.statements[deed[0]][0]
        last, adds = cells.get(cell, (None, ()))
        if word != "add":
            seen[deed] = (last, adds)
        if word == "put":
            cells[cell] = (deed, ())
        if word == "add":
            cells[cell] = (last, tuple(sorted(adds + (deed,))))
    return "done", {deed: seen[deed] for deed in sorted(seen)}, {cell: cells[cell] for cell in sorted(cells)}
