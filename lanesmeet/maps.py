"""Maps: for each deed of one kernel the instance of another one that it stands for."""

from lanesmeet.bodies import is_spot_part, part_mentions
from lanesmeet.cases import DEEDS, check_at, ground_for, is_point_of, sight_for, stands_there
from lanesmeet.errors import BadInstance, BadMap
from lanesmeet.forms import is_small, is_spot, place_of
from lanesmeet.givers import are_both_fellows, check_fellows, fetch_for, points_at, reads_of
from lanesmeet.guards import form_number, small_number
from lanesmeet.meaning import is_there_as
from lanesmeet.parts import Renamer, with_more
from lanesmeet.plain import is_between, is_tuple_of


def are_fellows(one, other):
    """Whether any two values are kernels that can be held beside one another."""
    return are_both_fellows(one, other)


class Horizon:
    """What is in sight at a point of a kernel: pairs (sort, name) of sizes and of the loops around."""

    def __init__(self, kernel, point):
        self.known = [("size", size[0]) for size in kernel.sizes]
        self.known = self.known + [(sort, name) for sort, name, _ in kernel.loops[point]]

    def sees(self, thing):
        """Whether all that a spot or a small names is in sight."""
        return all([pair in self.known for pair in part_mentions(thing)])

    def is_seen_spot(self, thing):
        """Whether thing is a spot whose names are in sight."""
        return is_spot(thing) and self.sees(thing)

    def is_seen_small(self, thing):
        """Whether thing is a small whose names are in sight."""
        return is_small(thing) and self.sees(thing)

    def are_turns(self, loops, thing):
        """Whether thing is a tuple with a spot for each long loop, a small for each short one."""
        if not is_tuple_of(thing, len(loops)):
            return False
        for loop, part in zip(loops, thing):
            if not (self.is_seen_spot(part) if loop[0] == "long" else self.is_seen_small(part)):
                return False
        return True

    def is_lane_pair(self, thing):
        """Whether thing is a pair of smalls whose names are in sight."""
        return is_tuple_of(thing, 2) and all([self.is_seen_small(part) for part in thing])

    def is_block_pair(self, thing):
        """Whether thing is a pair of spots whose names are in sight."""
        return is_tuple_of(thing, 2) and all([self.is_seen_spot(part) for part in thing])


def is_target(one, other, point, thing):
    """Whether thing is a target at a point of other."""
    if not is_tuple_of(thing, 4) or not is_point_of(one, thing[0], DEEDS):
        return False
    horizon = Horizon(other, point)
    if not horizon.is_block_pair(thing[1]) or not horizon.is_lane_pair(thing[2]):
        return False
    return horizon.are_turns(one.loops[thing[0]], thing[3])


def is_source(other, point, thing):
    """Whether thing is a source at a read of other."""
    if not is_tuple_of(thing, 3) or not is_point_of(other, thing[0], ("put",)):
        return False
    put = thing[0]
    array = place_of(other.statements[point])[0]
    if place_of(other.statements[put])[0] != array or fetch_for(other, put) is None:
        return False
    horizon = Horizon(other, point)
    return horizon.is_lane_pair(thing[1]) and horizon.are_turns(other.loops[put], thing[2])


def is_chart(one, other, thing):
    """Whether thing is a map of what are surely fellows."""
    if not is_tuple_of(thing, 2) or not isinstance(thing[0], dict) or not isinstance(thing[1], dict):
        return False
    deeds, sources = thing
    reads = reads_of(other)
    wanted = reads + points_at(other, ("put", "add"), "far")
    known = wanted + points_at(other, ("take",), "far")
    last = len(other.statements) - 1
    if not all([is_between(key, 0, last) for key in list(deeds) + list(sources)]):
        return False
    if not all([key in deeds for key in wanted]) or sorted(sources) != reads:
        return False
    if not all([key in known and is_target(one, other, key, deeds[key]) for key in deeds]):
        return False
    return all([is_source(other, key, sources[key]) for key in sources])


def is_map(one, other, thing):
    """Whether thing is a map of two fellows."""
    check_fellows(one, other)
    return is_chart(one, other, thing)


def check_map(one, other, chart):
    """Raises BadFellows, or BadMap for what is no map of them."""
    check_fellows(one, other)
    if not is_chart(one, other, chart):
        raise BadMap("this is no map of the fellows")


class Place:
    """Where an instance stands, so that spots and smalls that name what is in sight there come to numbers."""

    def __init__(self, kernel, sizes, instance):
        self.width = kernel.width
        self.sight = sight_for(kernel, sizes, instance)
        self.ground = ground_for(kernel, sizes, instance)

    def told_number(self, part):
        """The number of a small, the tile of a spot."""
        if not is_spot_part(part):
            return small_number(part, self.sight)
        return form_number(part[0], self.ground) + small_number(part[1], self.sight) // self.width

    def told_numbers(self, parts):
        """The numbers of several spots and smalls."""
        return tuple([self.told_number(part) for part in parts])


def image_at(other, chart, sizes, instance):
    """The image of what is surely a deed of other."""
    point, block, lane, turns = chart[0][instance[0]]
    place = Place(other, sizes, instance)
    return point, place.told_numbers(block), place.told_numbers(lane), place.told_numbers(turns)


def fetch_at(other, chart, sizes, instance):
    """The put and the take that the source of what is surely a read tells; None if they are not there."""
    point, lane, turns = chart[1][instance[0]]
    place = Place(other, sizes, instance)
    behind = instance[1], place.told_numbers(lane), place.told_numbers(turns)
    put = (point,) + behind
    if not stands_there(other, sizes, put):
        return None
    return put, (fetch_for(other, point),) + behind


def check_deed(one, other, chart, sizes, instance):
    """Raises the first error of fellows, a map of them, sizes and a deed."""
    check_map(one, other, chart)
    check_at(other, sizes)
    if not is_there_as(other, sizes, instance, DEEDS) or instance[0] not in chart[0]:
        raise BadInstance("this is no deed that is there")


def image(one, other, chart, sizes, instance):
    """The instance of one that a deed of other stands for."""
    check_deed(one, other, chart, sizes, instance)
    return image_at(other, chart, sizes, instance)


def fetch(one, other, chart, sizes, instance):
    """The put and the take that bring what a read takes; None if they are not there."""
    check_deed(one, other, chart, sizes, instance)
    if instance[0] not in chart[1]:
        raise BadInstance("this is no read")
    return fetch_at(other, chart, sizes, instance)


class Joiner(Renamer):
    """Writes spots and smalls of one kernel anew, by what a target tells of its blocks, lanes and turns."""

    def __init__(self, kernel, target):
        Renamer.__init__(self, {})
        point, self.blocks, self.lane, turns = target
        self.width = kernel.width
        self.turns = {loop[1]: part for loop, part in zip(kernel.loops[point], turns)}

    def new_small(self, small):
        """The small as it stands in the new text."""
        if small[0] == "lane":
            return self.lane[small[1]]
        if small[0] == "turn":
            return self.turns[small[1]]
        return (small[0],) + tuple([self.new_small(part) if isinstance(part, tuple) else part for part in small[1:]])

    def new_spot(self, spot):
        """The spot as it stands in the new text."""
        form, small = spot
        if form[0] not in ("block", "turn"):
            return form, self.new_small(small)
        told, offset = self.blocks[form[1]] if form[0] == "block" else self.turns[form[1]]
        tiles = ("times", ("is", self.width), ("over", offset, self.width))
        return with_more(told, form[2]), ("plus", self.new_small(small), tiles)

    def new_parts(self, parts):
        """Several spots and smalls as they stand in the new text."""
        return tuple([self.new_spot(part) if is_spot_part(part) else self.new_small(part) for part in parts])


def joined_map(one, two, three, first, second):
    """The map of one and three that comes of a map of one and two, and one of two and three."""
    check_fellows(one, two)
    check_fellows(two, three)
    if not is_chart(one, two, first):
        raise BadMap("the first one is no map")
    if not is_chart(two, three, second):
        raise BadMap("the second one is no map")
    deeds = {}
    for key in sorted(second[0]):
        target = second[0][key]
        if target[0] not in first[0]:
            raise BadMap("a target is no deed")
        point, block, lane, turns = first[0][target[0]]
        joiner = Joiner(two, target)
        deeds[key] = point, joiner.new_parts(block), joiner.new_parts(lane), joiner.new_parts(turns)
    return deeds, {key: second[1][key] for key in sorted(second[1])}
