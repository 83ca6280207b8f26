"""What stands behind the meaning of kernels: blocks, lanes, turns, steps, choices and cases."""

from lanesmeet.bodies import is_spot_part
from lanesmeet.errors import BadSizesAt, TooMany
from lanesmeet.forms import all_rests, are_sizes_at, place_of, promise_rows
from lanesmeet.guards import Ground, Sight, form_name, form_number, guard_holds, guard_parts, small_number, tied
from lanesmeet.guards import without_plain
from lanesmeet.kernels import check_kernel
from lanesmeet.plain import is_between, is_number_tuple, is_tuple_of

MOST_CASES = 20000
DEEDS = ("take", "put", "add")
STANDS = ("take", "put", "add", "meet")
MARK = " b"


def check_many(count):
    """Raises TooMany for more than 20000."""
    if count > MOST_CASES:
        raise TooMany(MOST_CASES)


def check_at(kernel, sizes):
    """Raises BadKernel for what is no kernel, BadSizesAt for what are no sizes of it."""
    check_kernel(kernel)
    if not are_sizes_at(kernel.sizes, kernel.promises, sizes):
        raise BadSizesAt("these are no sizes of the kernel")


def points_of(kernel, words):
    """The points of the statements with one of the words, ascending."""
    return [point for point, statement in enumerate(kernel.statements) if statement[0] in words]


def busy_points(kernel):
    """Whether each statement is, or has in it, a take, put, add or meeting. The list is kept with the kernel."""
    if "busy" not in kernel.held:
        busy = [statement[0] in STANDS for statement in kernel.statements]
        for point in points_of(kernel, STANDS):
            for outer, _ in kernel.arounds[point]:
                busy[outer] = True
        kernel.held["busy"] = busy
    return kernel.held["busy"]


def is_point_of(kernel, thing, words):
    """Whether thing is the point of a statement with one of the words."""
    return is_between(thing, 0, len(kernel.statements) - 1) and kernel.statements[thing][0] in words


def lanes_of(kernel):
    """All lanes of a block, ascending."""
    return [(y, x) for y in range(kernel.lanes[0]) for x in range(kernel.lanes[1])]


def is_lane(kernel, thing):
    """Whether thing is a lane that is there."""
    if not is_number_tuple(thing, 2):
        return False
    return 0 <= thing[0] < kernel.lanes[0] and 0 <= thing[1] < kernel.lanes[1]


def tiles_at(sizes):
    """The tiles of the sizes, by names."""
    return {name: sizes[name][0] for name in sizes}


def rests_at(sizes):
    """The rests of the sizes, by names."""
    return {name: sizes[name][1] for name in sizes}


def block_counts(kernel, sizes):
    """How many blocks there are on each axis; none is also told by a number below 0."""
    ground = Ground((0, 0), {}, tiles_at(sizes))
    return [form_number(form, ground) for form in kernel.blocks]


def is_block(kernel, sizes, thing):
    """Whether thing is a block that is there."""
    if not is_number_tuple(thing, 2):
        return False
    counts = block_counts(kernel, sizes)
    return 0 <= thing[0] < counts[0] and 0 <= thing[1] < counts[1]


def is_instance(kernel, thing):
    """Whether thing is an instance by its form."""
    if not is_tuple_of(thing, 4) or not is_between(thing[0], 0, len(kernel.statements) - 1):
        return False
    if not is_number_tuple(thing[1], 2) or not is_number_tuple(thing[2], 2):
        return False
    return is_number_tuple(thing[3], len(kernel.loops[thing[0]]))


def sight_for(kernel, sizes, instance):
    """What the lane of an instance knows at these sizes."""
    point, _, lane, turns = instance
    named = {loop[1]: turn for loop, turn in zip(kernel.loops[point], turns)}
    return Sight(kernel.width, lane, named, rests_at(sizes))


def ground_for(kernel, sizes, instance):
    """What forms stand for at an instance at these sizes."""
    point, block, _, turns = instance
    named = {loop[1]: turn for loop, turn in zip(kernel.loops[point], turns)}
    return Ground(block, named, tiles_at(sizes))


def stands_there(kernel, sizes, instance):
    """Whether what is an instance by its form is there."""
    point, block, lane, _ = instance
    if not is_block(kernel, sizes, block) or not is_lane(kernel, lane):
        return False
    sight = sight_for(kernel, sizes, instance)
    ground = ground_for(kernel, sizes, instance)
    for outer, side in kernel.arounds[point]:
        statement = kernel.statements[outer]
        if statement[0] == "if" and guard_holds(statement[1], sight, ground) != (side == 0):
            return False
        if statement[0] == "short" and not 0 <= sight.turns[statement[1]] < statement[2]:
            return False
        if statement[0] == "long":
            low = form_number(statement[2], ground)
            if not low <= sight.turns[statement[1]] < form_number(statement[3], ground):
                return False
    return True


def cell_at(kernel, sizes, instance):
    """The cell of an instance of a take, put or add."""
    array, where = place_of(kernel.statements[instance[0]])
    sight = sight_for(kernel, sizes, instance)
    if not is_spot_part(where[0]):
        return array, tuple([small_number(small, sight) for small in where]), instance[1]
    ground = ground_for(kernel, sizes, instance)
    found = []
    for form, small in where:
        number = small_number(small, sight)
        found.append((form_number(form, ground) + number // kernel.width, number % kernel.width))
    return array, tuple(found)


def short_loops(kernel, point):
    """The names of the short loops around a point, the outermost first."""
    return [name for sort, name, _ in kernel.loops[point] if sort == "short"]


def long_loops(kernel, point):
    """The names of the long loops around a point, the outermost first."""
    return [name for sort, name, _ in kernel.loops[point] if sort == "long"]


def all_short_turns(kernel, point):
    """All tuples of numbers of the short loops around a point, ascending."""
    found = [()]
    for sort, _, outer in kernel.loops[point]:
        if sort == "short":
            count = kernel.statements[outer][2]
            found = [before + (turn,) for before in found for turn in range(count)]
    return found


def choice_sight(kernel, point, choice):
    """What a lane knows by a choice for a point."""
    lane, turns, rests, _ = choice
    named = dict(zip(short_loops(kernel, point), turns))
    return Sight(kernel.width, lane, named, {size[0]: rest for size, rest in zip(kernel.sizes, rests)})


def size_rows(kernel):
    """The rows of sizes and promises, with which each case begins."""
    return [(None, "tiles " + name, 0) for name, _ in kernel.sizes] + promise_rows(kernel.promises)


def block_rows(kernel):
    """The rows of the blocks, which stand in each case behind those of sizes and promises."""
    rows = []
    for axis, form in enumerate(kernel.blocks):
        block = ("block", axis, 0)
        rows.append(tied(("none", None, 0), block, 0))
        rows.append(tied(block, form, -1))
    return rows


def loop_rows(statement):
    """The rows of a long loop."""
    turn = ("turn", statement[1], 0)
    return [tied(statement[2], turn, 0), tied(turn, statement[3], -1)]


def sided_rows(kernel, around, sight):
    """All pairs of sides and the rows of the loops and ifs in around, pairs (point, side), the sides ascending."""
    found = [((), [])]
    for outer, side in around:
        statement = kernel.statements[outer]
        if statement[0] == "long":
            rows = loop_rows(statement)
            found = [(sides, before + rows) for sides, before in found]
        if statement[0] == "if":
            parts = list(enumerate(guard_parts(statement[1], side == 0, sight)))
            found = [(sides + (at,), before + rows) for sides, before in found for at, rows in parts]
    return found


def point_cases(kernel, point):
    """All cases of a point, choices ascending. They are kept with the kernel, so nobody may change them."""
    key = ("cases", point)
    if key not in kernel.held:
        kernel.held[key] = new_cases(kernel, point)
    return kernel.held[key]


def new_cases(kernel, point):
    """All cases of a point, choices ascending."""
    return cases_along(kernel, point, kernel.arounds[point])


def cases_along(kernel, point, around):
    """As the cases of a point, of what has its loops, and around it the loops and ifs in around."""
    base = size_rows(kernel) + block_rows(kernel)
    found = []
    for lane in lanes_of(kernel):
        for turns in all_short_turns(kernel, point):
            for rests in all_rests(kernel.sizes):
                sight = choice_sight(kernel, point, (lane, turns, rests, ()))
                for sides, rows in sided_rows(kernel, around, sight):
                    found.append(((lane, turns, rests, sides), base + rows))
                check_many(len(found))
    return found


def is_choice(kernel, point, thing):
    """Whether thing is the choice of a case of a point."""
    if not is_tuple_of(thing, 4) or not is_lane(kernel, thing[0]):
        return False
    _, turns, rests, sides = thing
    if not is_number_tuple(turns, len(short_loops(kernel, point))) or turns not in all_short_turns(kernel, point):
        return False
    if not is_number_tuple(rests, len(kernel.sizes)) or rests not in all_rests(kernel.sizes):
        return False
    ifs = [pair for pair in kernel.arounds[point] if kernel.statements[pair[0]][0] == "if"]
    if not is_number_tuple(sides, len(ifs)):
        return False
    sight = choice_sight(kernel, point, thing)
    for index, (outer, side) in zip(sides, ifs):
        if not 0 <= index < len(guard_parts(kernel.statements[outer][1], side == 0, sight)):
            return False
    return True


def marked_name(name):
    """The name as it stands for a second instance."""
    if name is not None and (name.startswith("block ") or name.startswith("turn ")):
        return name + MARK
    return name


def marked_rows(rows):
    """The rows as they stand for a second instance."""
    return [(marked_name(a), marked_name(b), c) for a, b, c in rows]


def reached(kernel, point, choice):
    """What cell a choice comes to: the array, the offsets or numbers, and the tiles as pairs (name, number)."""
    array, where = place_of(kernel.statements[point])
    sight = choice_sight(kernel, point, choice)
    if not is_spot_part(where[0]):
        return array, tuple([small_number(small, sight) for small in where]), ()
    offsets = []
    tiles = []
    for form, small in where:
        number = small_number(small, sight)
        offsets.append(number % kernel.width)
        tiles.append((form_name(form), form[2] + number // kernel.width))
    return array, tuple(offsets), tuple(tiles)


def meeting_rows(one, other):
    """The rows that say that two that are told as by reached come to one cell, None if they cannot."""
    if one[:2] != other[:2]:
        return None
    rows = []
    for (a, first), (b, second) in zip(one[2], other[2]):
        mark = marked_name(b)
        rows.append((a, mark, second - first))
        rows.append((mark, a, first - second))
    return without_plain(rows)


def step_key(kernel, point, turns):
    """What stands for a step where steps are put in order: points and turns from the outermost loop on."""
    found = []
    for (_, _, outer), turn in zip(kernel.loops[point], turns):
        found.append(outer)
        found.append(turn)
    return found + [point]
