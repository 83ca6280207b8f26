"""Where meetings are wanted: the lots of gaps that conflicts pass, and the fewest meetings."""

from lanesmeet.cases import check_many, is_point_of, point_cases, points_of
from lanesmeet.cuts import cut
from lanesmeet.errors import BadGaps, BadPoint, Fixed, NotOne
from lanesmeet.fields import least_numbers, places_of, zone_by
from lanesmeet.finding import first_instance, second_instance, sizes_of
from lanesmeet.hits import first_hits, is_gap_tuple, is_tree_behind, new_tree
from lanesmeet.kernels import check_kernel
from lanesmeet.pairs import ahead, base_rows, first_stand, second_stand
from lanesmeet.parted import MEETS, parting
from lanesmeet.races import cases_by_cell, cell_rows, do_cross, outlines_of, race_region
from lanesmeet.rewriting import with_blocks, with_body
from lanesmeet.seats import all_seats, check_bare, passed_saying, with_meetings
from lanesmeet.ways import names_of, weighed
from lanesmeet.zones import thinned


def block_less(kernel, points, left):
    """The statements of a block but for the points that are left out."""
    return tuple([statement_less(kernel, point, left) for point in points if point not in left])


def statement_less(kernel, point, left):
    """A statement, without the points that are left out of its blocks."""
    return with_blocks(kernel.statements[point], [block_less(kernel, points, left) for points in kernel.inner[point]])


def kernel_less(kernel, left):
    """The kernel without some statements."""
    return with_body(kernel, block_less(kernel, kernel.tops, left))


def bare(kernel):
    """The kernel without its meetings."""
    check_kernel(kernel)
    return kernel_less(kernel, points_of(kernel, MEETS))


def gaps_of(kernel):
    """The gaps at which a meeting may part something, ascending."""
    check_bare(kernel)
    return [seat.gap for seat in all_seats(kernel)]


def with_gaps(kernel, numbers):
    """The kernel with meetings at the gaps of these numbers."""
    gaps = gaps_of(kernel)
    if not is_gap_tuple(len(gaps), numbers):
        raise BadGaps("this is no ascending tuple of indexes of gaps")
    return with_meetings(kernel, [gaps[number] for number in numbers])


def conflict_cases(kernel):
    """The pair cases of one block whose instances cross one another where they are at one cell."""
    found = []
    mates = cases_by_cell(kernel)
    for key in mates:
        by_point = {}
        for pair in mates[key]:
            by_point.setdefault(pair[0], []).append(pair)
        for point in by_point:
            for later in by_point:
                if point <= later and do_cross(kernel, point, later):
                    add_conflicts(kernel, by_point[point], by_point[later], found)
    return found


def add_conflicts(kernel, pairs, others, found):
    """Adds the conflict cases of two lists of pairs (point, number)."""
    for one in pairs:
        lane = point_cases(kernel, one[0])[one[1]][0][0]
        for other in others:
            case = (one, other, "same")
            mate = point_cases(kernel, other[0])[other[1]][0][0]
            if one < other and lane != mate and cell_rows(kernel, case) is not None:
                found.append(case)
        check_many(len(found))


class Seeker:
    """The search for the lots of conflicts within which no other one lies.

    lots are those found so far, fixed a conflict with the lot (), parts how much was parted.
    """

    def __init__(self, kernel):
        self.kernel = kernel
        self.seats = all_seats(kernel)
        self.lots = []
        self.fixed = None
        self.parts = 0

    def seek(self):
        """Looks at all conflict cases, up to the first conflict with the lot ()."""
        outlines = outlines_of(self.kernel)
        known = {}
        for case in conflict_cases(self.kernel):
            one, other, _ = case
            first, second = self.choices(case)
            key = (outlines.system_key(one), outlines.system_key(other), tuple(cell_rows(self.kernel, case)),
                   one[0], first[1], other[0], second[1], first[2])
            if key not in known:
                known[key] = True
                self.look_at(case)
            if self.fixed is not None:
                return

    def choices(self, case):
        """The two choices of a conflict case."""
        one, other, _ = case
        return point_cases(self.kernel, one[0])[one[1]][0], point_cases(self.kernel, other[0])[other[1]][0]

    def look_at(self, case):
        """Finds the lots of a conflict case, either of its instances being the first one."""
        rows = base_rows(self.kernel, case) + cell_rows(self.kernel, case)
        if weighed(rows, {})[0] is None:
            return
        one, other, _ = case
        first, second = self.choices(case)
        stand = first_stand(self.kernel, one[0], first)
        mate = second_stand(self.kernel, other[0], second)
        self.look_ahead(case, rows, stand, mate, False)
        if self.fixed is None:
            self.look_ahead(case, rows, mate, stand, True)

    def look_ahead(self, case, rows, stand, mate, swapped):
        """As look_at, what is at the one step, the second instance if swapped, being the first one."""
        first, _ = self.choices(case)
        names = names_of(rows)
        bound = [meeting for seat in self.seats for meeting in seat.stand().turn_names()]
        places = places_of(names + sorted(set(bound)))
        sayings = [passed_saying(self.kernel, seat, first[2], stand, mate) for seat in self.seats]
        zones = cut(zone_by(rows, places), ahead(mate, stand), False, places)
        found = self.part(zones, sayings, places, 0, ())
        if found is not None:
            pair = self.instances_at(case, least_numbers(found, names))
            self.fixed = pair if not swapped else (pair[0], pair[2], pair[1])

    def instances_at(self, case, numbers):
        """The sizes and the two instances of a conflict case that numbers tell."""
        one, other, _ = case
        first, second = self.choices(case)
        return (sizes_of(self.kernel, first[2], numbers), first_instance(self.kernel, one[0], first, numbers),
                second_instance(self.kernel, other[0], second, numbers))

    def part(self, zones, sayings, places, at, passed):
        """Parts the zones gap after gap from at on; returns a zone of conflicts that pass none, None without one."""
        if not zones or any([is_in(lot, passed) for lot in self.lots]):
            return None
        self.parts = self.parts + 1
        check_many(self.parts)
        if at == len(sayings):
            self.lots = [lot for lot in self.lots if not is_in(passed, lot)] + [passed]
            return None if passed else zones[0]
        without = thinned([piece for zone in zones for piece in cut(zone, sayings[at], False, places)])
        found = self.part(without, sayings, places, at + 1, passed)
        if found is not None:
            return found
        behind = thinned([piece for zone in zones for piece in cut(zone, sayings[at], True, places)])
        return self.part(behind, sayings, places, at + 1, passed + (at,))


def is_in(lot, other):
    """Whether all gaps of the lot are in the other one."""
    return all([gap in other for gap in lot])


def sought(kernel):
    """What lots_of tells. It is kept with the kernel, so nobody may change it."""
    if "lots" not in kernel.held:
        seeker = Seeker(kernel)
        seeker.seek()
        if seeker.fixed is not None:
            kernel.held["lots"] = ("fixed", seeker.fixed)
        else:
            kernel.held["lots"] = ("lots", tuple(sorted(seeker.lots)))
    return kernel.held["lots"]


def lots_of(kernel):
    """The lots of all conflicts within which no other one lies, or a conflict that no gap parts."""
    check_bare(kernel)
    word, found = sought(kernel)
    if word == "fixed":
        return word, ({name: found[0][name] for name in found[0]}, found[1], found[2])
    return word, found


def fewest_meetings(kernel):
    """The kernel with meetings at the fewest gaps that part all conflicts, their numbers, and a tree for one less."""
    word, found = lots_of(kernel)
    if word == "fixed":
        raise Fixed(found[0], found[1], found[2])
    if not found:
        return with_meetings(kernel, []), (), None
    gaps = gaps_of(kernel)
    numbers = first_hits(len(gaps), list(found))
    return with_meetings(kernel, [gaps[number] for number in numbers]), numbers, new_tree(list(found), len(numbers) - 1)


def is_fewest(kernel, numbers, thing):
    """Whether the numbers are those of gaps that part all conflicts, and thing shows that one less does not do."""
    word, found = lots_of(kernel)
    if word == "fixed" or not is_gap_tuple(len(gaps_of(kernel)), numbers):
        return False
    for lot in found:
        if not any([gap in numbers for gap in lot]):
            return False
    if not numbers:
        return thing is None
    return is_tree_behind(found, [], len(numbers) - 1, thing)


def never_races(kernel):
    """Whether the kernel is never parted, and has no race at any size."""
    return parting(kernel) is None and not race_region(kernel)


def needless_meetings(kernel):
    """The points of the meetings each of which can be left out alone, ascending."""
    check_kernel(kernel)
    if not never_races(kernel):
        raise NotOne("the kernel is parted or has a race at some sizes")
    return tuple([point for point in points_of(kernel, MEETS) if never_races(kernel_less(kernel, [point]))])


def without_meeting(kernel, point):
    """The kernel without a meeting."""
    check_kernel(kernel)
    if not is_point_of(kernel, point, MEETS):
        raise BadPoint("this is no point of a meeting")
    return kernel_less(kernel, [point])
