"""Kernels: texts that many lanes do at once."""

from lanesmeet.bodies import Scroll
from lanesmeet.errors import BadArrays, BadBlocks, BadBody, BadKernel, BadLanes, BadPoint, BadPromises
from lanesmeet.errors import BadSizes, BadWidth
from lanesmeet.forms import WIDEST, are_promises, are_sizes, is_form, is_word
from lanesmeet.plain import is_between, is_tuple_of


def is_name(thing):
    """Whether thing is a name: a string of 1 to 8 letters a to z."""
    return is_word(thing)


def are_lanes(thing):
    """Whether thing is a pair of numbers of lanes."""
    if not is_tuple_of(thing, 2) or not is_between(thing[0], 1, 8) or not is_between(thing[1], 1, 8):
        return False
    return thing[0] * thing[1] <= 16


def are_blocks(thing):
    """Whether thing is a pair of forms for blocks; whether there is such a size is not asked."""
    if not is_tuple_of(thing, 2):
        return False
    for form in thing:
        if not is_form(form) or form[0] not in ("none", "tiles"):
            return False
        if form[0] == "none" and not 1 <= form[2] <= 9:
            return False
    return True


def is_array(thing, sizes):
    """Whether thing is a far or a shared array."""
    if not is_tuple_of(thing, 3) or not is_word(thing[1]):
        return False
    if not isinstance(thing[2], tuple) or not 1 <= len(thing[2]) <= 2:
        return False
    if thing[0] == "far":
        return all([is_word(name) and name in sizes for name in thing[2]])
    return thing[0] == "shared" and all([is_between(count, 1, 16) for count in thing[2]])


def are_arrays(thing, sizes):
    """Whether thing is a tuple of arrays."""
    if not isinstance(thing, tuple) or len(thing) > 6 or not all([is_array(array, sizes) for array in thing]):
        return False
    return len(set([name for _, name, _ in thing])) == len(thing)


def check_head(width, lanes, blocks, sizes, promises, arrays):
    """Raises the first error of what stands ahead of a body."""
    if not is_between(width, 1, WIDEST):
        raise BadWidth("a width is a number from 1 to 8")
    if not are_lanes(lanes):
        raise BadLanes("lanes are a pair of numbers from 1 to 8, 16 together at most")
    if not are_blocks(blocks):
        raise BadBlocks("blocks are a pair of numbers from 1 to 9 or of tiles")
    if not are_sizes(sizes, width):
        raise BadSizes("sizes are at most 3 names with rests below the width")
    names = [name for name, _ in sizes]
    for form in blocks:
        if form[0] == "tiles" and form[1] not in names:
            raise BadBlocks("blocks name a size that there is not")
    if not are_promises(promises, sizes):
        raise BadPromises("promises are at most 8 rows of names of sizes")
    if not are_arrays(arrays, names):
        raise BadArrays("arrays are at most 6 far or shared ones")


class Kernel:
    """A kernel. Next to what it is made of it keeps where each statement stands.

    tops are the points of the body, inner those of the blocks of each statement, loops the loops
    (sort, name, point) around each; held keeps what other modules have told of the kernel already.
    """

    def __init__(self, width, lanes, blocks, sizes, promises, arrays, body):
        check_head(width, lanes, blocks, sizes, promises, arrays)
        if not isinstance(body, tuple):
            raise BadBody(None, "form")
        self.width = width
        self.lanes = lanes
        self.blocks = blocks
        self.sizes = sizes
        self.promises = promises
        self.arrays = arrays
        self.body = body
        scroll = Scroll([name for name, _ in sizes], {array[1]: array for array in arrays})
        self.tops = scroll.enter(body, (), ())
        self.statements = tuple(scroll.statements)
        self.arounds = tuple(scroll.arounds)
        self.loops = tuple(scroll.loops)
        self.inner = tuple(scroll.inner)
        self.held = {}

    def around(self, point):
        """The pairs (point, side) of the loops and ifs around a statement, the outermost first."""
        if not is_between(point, 0, len(self.statements) - 1):
            raise BadPoint("the kernel has no such statement")
        return self.arounds[point]

    def __eq__(self, other):
        if not isinstance(other, Kernel):
            return False
        return (self.width == other.width and self.lanes == other.lanes and self.blocks == other.blocks
                and self.sizes == other.sizes and self.promises == other.promises
                and self.arrays == other.arrays and self.body == other.body)


def check_kernel(kernel):
    """Raises BadKernel for what is no kernel."""
    if not isinstance(kernel, Kernel):
        raise BadKernel("this is no kernel")
