"""Parted meetings: those that some lanes of a block come to and others do not."""

from lanesmeet.cases import check_many, choice_sight, is_block, is_instance, is_lane, is_point_of, lanes_of
from lanesmeet.cases import point_cases, points_of, stands_there
from lanesmeet.differences import lowest
from lanesmeet.errors import BadPoint
from lanesmeet.finding import Scales, all_turns, block_of, sizes_of
from lanesmeet.forms import are_sizes_at
from lanesmeet.guards import guard_parts
from lanesmeet.kernels import check_kernel
from lanesmeet.plain import has_just_keys, is_tuple_of
from lanesmeet.rings import are_rings, rings_of
from lanesmeet.sizing import Lots

MEETS = ("meet",)


def ways_apart(kernel, point, choice, other):
    """The ways, ascending, in which the lane other goes apart: pairs of sides and rows."""
    lane, turns, rests, _ = choice
    sight = choice_sight(kernel, point, (other, turns, rests, ()))
    found = []
    along = [((), [])]
    for outer, side in kernel.arounds[point]:
        statement = kernel.statements[outer]
        if statement[0] != "if":
            continue
        contrary = list(enumerate(guard_parts(statement[1], side != 0, sight)))
        alike = list(enumerate(guard_parts(statement[1], side == 0, sight)))
        found = found + [(sides + (at,), before + rows) for sides, before in along for at, rows in contrary]
        along = [(sides + (at,), before + rows) for sides, before in along for at, rows in alike]
    return sorted(found, key=lambda pair: pair[0])


def point_parted(kernel, point):
    """All parted cases of a meeting. They are kept with the kernel, so nobody may change them."""
    key = ("parted", point)
    if key not in kernel.held:
        found = []
        for choice, system in point_cases(kernel, point):
            for other in lanes_of(kernel):
                if other != choice[0]:
                    ways = ways_apart(kernel, point, choice, other)
                    found.extend([(choice, (other, sides), system + rows) for sides, rows in ways])
            check_many(len(found))
        kernel.held[key] = found
    return kernel.held[key]


def parted_cases(kernel, point):
    """All parted cases of a meeting, ascending by choices and ways."""
    check_kernel(kernel)
    if not is_point_of(kernel, point, MEETS):
        raise BadPoint("this is no point of a meeting")
    return [(choice, way, list(system)) for choice, way, system in point_parted(kernel, point)]


def all_parted(kernel):
    """The parted cases of all meetings, by points; TooMany for more than 20000 together."""
    found = {}
    count = 0
    for point in points_of(kernel, MEETS):
        found[point] = point_parted(kernel, point)
        count = count + len(found[point])
        check_many(count)
    return found


def parting(kernel):
    """The parting at the least point of the first parted case that has one, None if there is none."""
    check_kernel(kernel)
    return first_parting(kernel, all_parted(kernel))


def first_parting(kernel, parted):
    """The parting at the least point of the first of the parted cases that has one, None if there is none."""
    scales = Scales()
    for point in parted:
        for choice, way, system in parted[point]:
            if scales.has_point(system):
                return parting_at(kernel, point, choice, way, lowest(system))
    return None


def parting_at(kernel, point, choice, way, numbers):
    """The parting of a parted case at a point of its system."""
    lane, turns, rests, _ = choice
    sizes = sizes_of(kernel, rests, numbers)
    return sizes, block_of(numbers, ""), lane, way[0], point, all_turns(kernel, point, turns, numbers, "")


def is_parting(kernel, thing):
    """Whether thing is a parting."""
    check_kernel(kernel)
    if not is_tuple_of(thing, 6):
        return False
    sizes, block, lane, other, point, turns = thing
    if not are_sizes_at(kernel.sizes, kernel.promises, sizes) or not is_block(kernel, sizes, block):
        return False
    if not is_lane(kernel, lane) or not is_lane(kernel, other) or not is_point_of(kernel, point, MEETS):
        return False
    own = (point, block, lane, turns)
    if not is_instance(kernel, own):
        return False
    return stands_there(kernel, sizes, own) and not stands_there(kernel, sizes, (point, block, other, turns))


def parted_papers(kernel):
    """For each meeting the first rings of its parted cases; None if there is a parting."""
    check_kernel(kernel)
    parted = all_parted(kernel)
    if first_parting(kernel, parted) is not None:
        return None
    return {point: rings_of(systems_in(parted[point])) for point in parted}


def systems_in(cases):
    """The systems of parted cases."""
    return [system for _, _, system in cases]


def is_parted_papers(kernel, thing):
    """Whether thing has a ring for each parted case of each meeting."""
    check_kernel(kernel)
    parted = all_parted(kernel)
    if not has_just_keys(thing, list(parted)):
        return False
    return all([are_rings(systems_in(parted[point]), thing[point]) for point in parted])


def parted_region(kernel):
    """The region of the sizes at which the kernel is parted."""
    check_kernel(kernel)
    if "parted region" not in kernel.held:
        kernel.held["parted region"] = new_parted_region(kernel)
    return kernel.held["parted region"]


def new_parted_region(kernel):
    """The region of what the parted cases leave of the tiles, by their rests."""
    lots = Lots(kernel)
    known = {}
    parted = all_parted(kernel)
    for point in parted:
        for choice, _, system in parted[point]:
            key = tuple(system)
            if key not in known:
                known[key] = lots.tiles_where(system, [])
            lots.take_in(choice[2], known[key])
    return lots.region()
