"""Kernels without what never comes, and with shields against what is beyond."""

from lanesmeet.cases import DEEDS, cases_along, check_many, is_point_of, point_cases
from lanesmeet.differences import lowest
from lanesmeet.edging import array_of, bounds_of, no_margins, parts_of_place, rows_told
from lanesmeet.errors import BadPoint
from lanesmeet.finding import Scales, first_instance, sizes_of
from lanesmeet.forms import place_of
from lanesmeet.kernels import check_kernel
from lanesmeet.rewriting import with_blocks, with_body


def side_cases(kernel, point, side):
    """The cases of one side of an if. They are kept with the kernel, so nobody may change them."""
    key = ("side cases", point, side)
    if key not in kernel.held:
        kernel.held[key] = cases_along(kernel, point, kernel.arounds[point] + ((point, side),))
    return kernel.held[key]


def gone_into(kernel, point, side):
    """What is told of the first instance of an if that goes to a side; None if none does."""
    scales = Scales()
    for choice, system in side_cases(kernel, point, side):
        if scales.has_point(system):
            numbers = lowest(system)
            _, block, lane, turns = first_instance(kernel, point, choice, numbers)
            return sizes_of(kernel, choice[2], numbers), block, lane, turns
    return None


def sides(kernel, point):
    """For each side of an if (sizes, block, lane, turns) that go into it, None if none do."""
    check_kernel(kernel)
    if not is_point_of(kernel, point, ("if",)):
        raise BadPoint("this is no point of an if")
    both = side_cases(kernel, point, 0), side_cases(kernel, point, 1)
    check_many(len(both[0]) + len(both[1]))
    return gone_into(kernel, point, 0), gone_into(kernel, point, 1)


class Trimmer:
    """Statements rewritten one by one, each with the old points of all that stands in it (None for what is new)."""

    def __init__(self, kernel):
        self.kernel = kernel
        self.scales = Scales()

    def is_ever_there(self, point):
        """Whether a statement is there at some sizes."""
        for _, system in point_cases(self.kernel, point):
            if self.scales.has_point(system):
                return True
        return False

    def trimmed_block(self, points):
        """A pair: the statements of a block, trimmed, and their old points."""
        body = ()
        old = ()
        for point in points:
            if self.is_ever_there(point):
                more, later = self.trimmed_statement(point)
                body = body + more
                old = old + later
        return body, old

    def trimmed_statement(self, point):
        """As trimmed_block, of a statement that is there at some sizes."""
        kernel = self.kernel
        statement = kernel.statements[point]
        if statement[0] == "if":
            # What is there goes to one side at least.
            if gone_into(kernel, point, 0) is None:
                return self.trimmed_block(kernel.inner[point][1])
            if gone_into(kernel, point, 1) is None:
                return self.trimmed_block(kernel.inner[point][0])
        return joined_up(statement, point, [self.trimmed_block(points) for points in kernel.inner[point]])

    def shielded_block(self, points):
        """A pair: the statements of a block, shielded, and their old points."""
        body = ()
        old = ()
        for point in points:
            statement = self.kernel.statements[point]
            inner = [self.shielded_block(own) for own in self.kernel.inner[point]]
            more, later = joined_up(statement, point, inner)
            axes = self.loose_axes(point) if statement[0] in DEEDS else ()
            if axes:
                more = (("if", shield(self.kernel, point, axes), more, ()),)
                later = (None,) + later
            body = body + more
            old = old + later
        return body, old

    def loose_axes(self, point):
        """The fewest axes such that what is not beyond at these is not beyond at others, of these the least."""
        axes = list(range(len(array_of(self.kernel, point)[2])))
        for chosen in [()] + [(axis,) for axis in axes]:
            if self.is_enough(point, chosen):
                return chosen
        return tuple(axes)

    def is_enough(self, point, chosen):
        """Whether no instance of a point that is within at the chosen axes is beyond at another one."""
        for choice, system in point_cases(self.kernel, point):
            bounds = bounds_of(self.kernel, point, choice, no_margins(self.kernel, point))
            within = rows_told([bound for axis in chosen for bound in bounds[axis]])
            others = [pair for axis, pair in enumerate(bounds) if axis not in chosen]
            if within is None:
                continue
            for _, rows in parts_of_place(others):
                if self.scales.has_point(system + within + rows):
                    return False
        return True


def joined_up(statement, point, inner):
    """A pair: the statement with other blocks, and its old points; inner has for each block such a pair."""
    old = (point,)
    for _, later in inner:
        old = old + later
    return (with_blocks(statement, [body for body, _ in inner]),), old


def axis_shield(array, part, axis):
    """The guard that a part of a place is not beyond on its axis."""
    sort, _, counts = array
    if sort == "far":
        return "within", part, counts[axis]
    return "and", ("small", ("is", 0), "atmost", part), ("small", part, "less", ("is", counts[axis]))


def shield(kernel, point, axes):
    """The guard that a place is not beyond on these axes."""
    array = array_of(kernel, point)
    where = place_of(kernel.statements[point])[1]
    guards = [axis_shield(array, where[axis], axis) for axis in axes]
    found = guards[0]
    for guard in guards[1:]:
        found = ("and", found, guard)
    return found


def check_all(kernel):
    """Raises BadKernel, or TooMany for more than 20000 cases of all statements."""
    check_kernel(kernel)
    count = 0
    for point in range(len(kernel.statements)):
        count = count + len(point_cases(kernel, point))
        check_many(count)


def trimmed(kernel):
    """The kernel without what is there at no sizes, and the old points of its statements."""
    check_all(kernel)
    body, points = Trimmer(kernel).trimmed_block(kernel.tops)
    return with_body(kernel, body), points


def shielded(kernel):
    """The kernel with ifs around all that may be beyond, and the old points of its statements, None for these ifs."""
    check_all(kernel)
    body, points = Trimmer(kernel).shielded_block(kernel.tops)
    return with_body(kernel, body), points
