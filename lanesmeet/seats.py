"""Seats of meetings: the gaps between the statements of a kernel that has none."""

from lanesmeet.cases import sided_rows
from lanesmeet.errors import BadBare, TooMany
from lanesmeet.guards import Sight
from lanesmeet.kernels import check_kernel
from lanesmeet.pairs import Stand, ahead, bound_turn
from lanesmeet.rewriting import end_of, sides_of, with_blocks, with_body
from lanesmeet.wording import said

MOST_GAPS = 16
MEET = ("meet",)


class Seat:
    """A gap (around, index): what is around it, its loops, and how many statements stand ahead of it in the text."""

    def __init__(self, gap, arounds, loops, ahead_of_it):
        self.gap = gap
        self.arounds = arounds
        self.loops = loops
        self.ahead_of_it = ahead_of_it

    def stand(self):
        """The step of a meeting there; its spot lies between those of statements."""
        return Stand(self.loops, 2 * self.ahead_of_it, {}, "Turn ", "")


def check_bare(kernel):
    """Raises BadKernel for what is no kernel, BadBare for one with meetings."""
    check_kernel(kernel)
    if MEET in kernel.statements:
        raise BadBare("the kernel has meetings")


def names_lane(thing):
    """Whether a guard, or what stands in it, asks for a lane."""
    if not isinstance(thing, tuple):
        return False
    return thing[0] == "lane" or any([names_lane(item) for item in thing])


def is_open(kernel, arounds):
    """Whether all lanes of a block come alike to what has these loops and ifs around it, once for each long turn."""
    for outer, _ in arounds:
        statement = kernel.statements[outer]
        if statement[0] == "short" or statement[0] == "if" and names_lane(statement[1]):
            return False
    return True


def block_seats(around, arounds, loops, ends):
    """The seats of a block; ends tells for each how many statements stand ahead of it."""
    return [Seat((around, index), arounds, loops, end) for index, end in enumerate(ends)]


def ends_in(kernel, first, points):
    """How many statements stand ahead of each gap of a block with these points, which begins at first."""
    return [first] + [end_of(kernel, point) for point in points]


def inner_seats(kernel, point):
    """The seats of the blocks of a statement, if all lanes come to them."""
    statement = kernel.statements[point]
    loops = kernel.loops[point]
    if statement[0] == "long":
        loops = loops + (("long", statement[1], point),)
    found = []
    first = point + 1
    for side, points in zip(sides_of(statement), kernel.inner[point]):
        arounds = kernel.arounds[point] + ((point, side),)
        ends = ends_in(kernel, first, points)
        if is_open(kernel, arounds):
            found.extend(block_seats((point, side), arounds, loops, ends))
        first = ends[-1]
    return found


def all_seats(kernel):
    """The seats of all gaps but for the first and the last one of the body, ascending; TooMany for more than 16."""
    found = block_seats((), (), (), ends_in(kernel, 0, kernel.tops))[1:-1]
    for point in range(len(kernel.statements)):
        found.extend(inner_seats(kernel, point))
    if len(found) > MOST_GAPS:
        raise TooMany(MOST_GAPS)
    return found


def block_with(kernel, around, points, wanted):
    """The statements of a block, with meetings at the wanted gaps."""
    found = []
    for index, point in enumerate(points):
        if (around, index) in wanted:
            found.append(MEET)
        found.append(statement_with(kernel, point, wanted))
    if (around, len(points)) in wanted:
        found.append(MEET)
    return tuple(found)


def statement_with(kernel, point, wanted):
    """A statement, with meetings at the wanted gaps of its blocks."""
    statement = kernel.statements[point]
    pairs = list(zip(sides_of(statement), kernel.inner[point]))
    return with_blocks(statement, [block_with(kernel, (point, side), points, wanted) for side, points in pairs])


def with_meetings(kernel, gaps):
    """The kernel with meetings at these gaps."""
    return with_body(kernel, block_with(kernel, (), kernel.tops, {gap: True for gap in gaps}))


def passed_saying(kernel, seat, rests, one, other):
    """The saying that, with these rests, a meeting at a seat stands behind the one step and ahead of the other."""
    # No lane is asked for by what is around a seat, so any may stand here.
    sight = Sight(kernel.width, (0, 0), {}, {size[0]: rest for size, rest in zip(kernel.sizes, rests)})
    meeting = seat.stand()
    names = meeting.turn_names()
    order = [ahead(one, meeting), ahead(meeting, other)]
    parts = []
    for _, rows in sided_rows(kernel, seat.arounds, sight):
        inner = ("and", tuple([said((bound_turn(a), bound_turn(b), c)) for a, b, c in rows] + order))
        parts.append(("some", names, inner) if names else inner)
    return "or", tuple(parts)
