"""Edges: whether something is ever beyond its array, and how far."""

from lanesmeet.cases import DEEDS, check_many, choice_sight, point_cases, points_of
from lanesmeet.differences import lowest
from lanesmeet.edging import array_of, edge_cases
from lanesmeet.errors import BadArray, BadAxis, BadName, BadRegion, BadSide
from lanesmeet.finding import Scales, first_instance, sizes_of
from lanesmeet.forms import place_of
from lanesmeet.guards import form_name, small_number
from lanesmeet.kernels import check_kernel
from lanesmeet.plain import has_just_keys, is_between
from lanesmeet.regions import Region
from lanesmeet.rings import are_rings, rings_of
from lanesmeet.sizing import Lots
from lanesmeet.ways import least_sums


def all_edges(kernel):
    """The edge cases of all takes, puts and adds, by points; TooMany for more than 20000 together."""
    found = {}
    count = 0
    for point in points_of(kernel, DEEDS):
        found[point] = edge_cases(kernel, point)
        count = count + len(found[point])
        check_many(count)
    return found


def instance_in(kernel, point, choice, system):
    """The sizes and the instance of a choice at the least point of a system."""
    numbers = lowest(system)
    return sizes_of(kernel, choice[2], numbers), first_instance(kernel, point, choice, numbers)


def first_beyond(kernel, edges):
    """The sizes and the instance at the least point of the first edge case that has one, None without one."""
    scales = Scales()
    for point in edges:
        for choice, _, system in edges[point]:
            if scales.has_point(system):
                return instance_in(kernel, point, choice, system)
    return None


def beyond(kernel):
    """Sizes and an instance that is beyond its array there, None if none is at any sizes."""
    check_kernel(kernel)
    return first_beyond(kernel, all_edges(kernel))


def systems_in(cases):
    """The systems of edge cases."""
    return [system for _, _, system in cases]


def beyond_papers(kernel):
    """For each take, put and add the first rings of its edge cases; None if something is beyond."""
    check_kernel(kernel)
    edges = all_edges(kernel)
    if first_beyond(kernel, edges) is not None:
        return None
    return {point: rings_of(systems_in(edges[point])) for point in edges}


def are_beyond_papers(kernel, thing):
    """Whether thing has a ring for each edge case of each take, put and add."""
    check_kernel(kernel)
    edges = all_edges(kernel)
    if not has_just_keys(thing, list(edges)):
        return False
    return all([are_rings(systems_in(edges[point]), thing[point]) for point in edges])


def beyond_region(kernel):
    """The region of the sizes at which something is beyond."""
    check_kernel(kernel)
    lots = Lots(kernel)
    known = {}
    edges = all_edges(kernel)
    for point in edges:
        for choice, _, system in edges[point]:
            key = tuple(system)
            if key not in known:
                known[key] = lots.tiles_where(system, [])
            lots.take_in(choice[2], known[key])
    return lots.region()


def check_side(kernel, array, axis, side):
    """Raises BadArray, BadAxis or BadSide for what cannot stand there."""
    counts = {name: len(own) for _, name, own in kernel.arrays}
    if not isinstance(array, str) or array not in counts:
        raise BadArray("this is no name of an array")
    if not is_between(axis, 0, counts[array] - 1):
        raise BadAxis("the array has no such axis")
    if not is_between(side, 0, 1):
        raise BadSide("a side is 0 or 1")


def overhang(kernel, point, choice, axis, side):
    """A triple (a, b, number): the overhang of a choice's instances is width * (a - b) + number, names being told."""
    sort, _, counts = array_of(kernel, point)
    part = place_of(kernel.statements[point])[1][axis]
    sight = choice_sight(kernel, point, choice)
    if sort == "shared":
        number = small_number(part, sight)
        return None, None, -number if side == 0 else number - counts[axis] + 1
    form, small = part
    position = kernel.width * form[2] + small_number(small, sight)
    if side == 0:
        return None, form_name(form), -position
    return form_name(form), "tiles " + counts[axis], position - sight.rests[counts[axis]] + 1


class Reach:
    """The greatest difference of two names over the points of systems, each asked for once."""

    def __init__(self):
        self.known = {}
        self.scales = Scales()

    def greatest(self, system, a, b):
        """A pair: whether the system has a point, and the greatest a - b, None if there is none."""
        key = (tuple(system), a, b)
        if key not in self.known:
            there = self.scales.has_point(system)
            self.known[key] = there, least_sums(system, a).get(b) if there else None
        return self.known[key]


def cases_at(kernel, array):
    """The cases of all takes, puts and adds at an array, as triples (point, choice, system); TooMany."""
    found = []
    for point in points_of(kernel, DEEDS):
        if place_of(kernel.statements[point])[0] == array:
            found.extend([(point, choice, system) for choice, system in point_cases(kernel, point)])
            check_many(len(found))
    return found


def farthest(kernel, array, axis, side):
    """The greatest overhang at an array, with sizes and an instance; "endless", or None if none comes there."""
    check_kernel(kernel)
    check_side(kernel, array, axis, side)
    reach = Reach()
    best = None
    for point, choice, system in cases_at(kernel, array):
        a, b, more = overhang(kernel, point, choice, axis, side)
        there, most = reach.greatest(system, a, b)
        if there and most is None:
            return "endless"
        if there and (best is None or kernel.width * most + more > best[0]):
            rows = system if a == b else system + [(b, a, -most)]
            best = kernel.width * most + more, point, choice, rows
    if best is None:
        return None
    return (best[0],) + instance_in(kernel, best[1], best[2], best[3])


def enough(region, a, b):
    """The greatest c such that no sizes of the region have tiles of a less those of b at most c; "any", or None."""
    if not isinstance(region, Region):
        raise BadRegion("this is no region")
    names = [None] + [name for name, _ in region.sizes]
    for name in (a, b):
        if name is not None and not isinstance(name, str) or name not in names:
            raise BadName("this is neither None nor a name of a size")
    if a == b:
        raise BadName("both names are equal")
    bounds = [zone[names.index(b)][names.index(a)] for rests in region.lots for zone in region.lots[rests]]
    if not bounds:
        return "any"
    return None if None in bounds else -max(bounds) - 1
