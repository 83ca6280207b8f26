"""Races: instances of unlike lanes at one cell, of which one crosses the other, side by side."""

from lanesmeet.beside import first_between, meetings_in, stand_beside
from lanesmeet.cases import DEEDS, cell_at, check_at, check_many, meeting_rows, point_cases, points_of, reached
from lanesmeet.errors import BadPair
from lanesmeet.forms import are_sizes_at, place_of
from lanesmeet.kernels import check_kernel
from lanesmeet.machine import all_lists
from lanesmeet.meaning import is_there_as
from lanesmeet.pairs import HOWS, base_rows, beside_saying, firm_parts, is_pair_case, parts_between
from lanesmeet.papers import is_tree_for
from lanesmeet.parted import parted_region
from lanesmeet.plain import has_just_keys, is_tuple_of
from lanesmeet.prover import tree_for
from lanesmeet.regions import all_sizes
from lanesmeet.sizing import Lots
from lanesmeet.ways import weighed
from lanesmeet.wording import said


def do_cross(kernel, one, other):
    """Whether instances of two points can cross one another, at one cell."""
    words = (kernel.statements[one][0], kernel.statements[other][0])
    return "put" in words or "add" in words and "take" in words


def deeds_by_cell(kernel, sizes, lists):
    """The instances of takes, puts and adds at each cell."""
    found = {}
    for pair in lists:
        for instance in lists[pair]:
            if kernel.statements[instance[0]][0] in DEEDS:
                found.setdefault(cell_at(kernel, sizes, instance), []).append(instance)
    return found


def races_at(kernel, sizes):
    """The pairs of instances of all races at these sizes, ascending."""
    check_at(kernel, sizes)
    lists = all_lists(kernel, sizes)
    meetings = {pair: meetings_in(kernel, lists[pair]) for pair in lists}
    cells = deeds_by_cell(kernel, sizes, lists)
    found = []
    for cell in cells:
        deeds = sorted(cells[cell])
        for at, one in enumerate(deeds):
            for other in deeds[at + 1:]:
                if one[1:3] == other[1:3] or not do_cross(kernel, one[0], other[0]):
                    continue
                if one[1] != other[1] or first_between(kernel, meetings[one[1:3]], one, other) is None:
                    found.append((one, other))
    return sorted(found)


def is_race(kernel, thing):
    """Whether thing is a race."""
    check_kernel(kernel)
    if not is_tuple_of(thing, 3) or not are_sizes_at(kernel.sizes, kernel.promises, thing[0]):
        return False
    sizes, one, other = thing
    if not is_there_as(kernel, sizes, one, DEEDS) or not is_there_as(kernel, sizes, other, DEEDS):
        return False
    if one[1:3] == other[1:3] or not one < other or not do_cross(kernel, one[0], other[0]):
        return False
    if cell_at(kernel, sizes, one) != cell_at(kernel, sizes, other):
        return False
    return stand_beside(kernel, sizes, one, other)


def all_reached(kernel, point):
    """What cell each case of a point comes to. The list is kept with the kernel, so nobody may change it."""
    key = ("reached", point)
    if key not in kernel.held:
        kernel.held[key] = [reached(kernel, point, choice) for choice, _ in point_cases(kernel, point)]
    return kernel.held[key]


def cell_rows(kernel, case):
    """The rows of same_cell for a pair case, None if both are never at one cell."""
    (one, number), (other, index), _ = case
    return meeting_rows(all_reached(kernel, one)[number], all_reached(kernel, other)[index])


def is_shared(kernel, point):
    """Whether the statement of a point is at a shared array."""
    name = place_of(kernel.statements[point])[0]
    return ("shared", name) in [(sort, own) for sort, own, _ in kernel.arrays]


def hows_for(kernel, one, other):
    """How the blocks of a race case can be told, for two pairs (point, number), lanes not being asked."""
    if is_shared(kernel, one[0]):
        hows = HOWS[:1]
    else:
        hows = HOWS if one[0] < other[0] else ("same", "less 0", "less 1")
    if one[0] == other[0] and one[1] >= other[1]:
        return hows[1:]
    return hows


def is_race_case(kernel, thing):
    """Whether thing is a race case."""
    if not is_pair_case(kernel, thing):
        return False
    one, other, how = thing
    if one[0] > other[0] or not do_cross(kernel, one[0], other[0]):
        return False
    return how in hows_for(kernel, one, other) and cell_rows(kernel, thing) is not None


def cases_by_cell(kernel):
    """All pairs (point, number) of deeds, ascending, by their rests, arrays and offsets."""
    found = {}
    for point in points_of(kernel, DEEDS):
        cells = all_reached(kernel, point)
        for number, (choice, _) in enumerate(point_cases(kernel, point)):
            found.setdefault((choice[2],) + cells[number][:2], []).append((point, number))
    return found


def all_race_cases(kernel):
    """All race cases, in order. They are kept with the kernel, so nobody may change them."""
    if "races" not in kernel.held:
        kernel.held["races"] = new_race_cases(kernel)
    return kernel.held["races"]


def new_race_cases(kernel):
    """All race cases, in order; TooMany for more than 20000."""
    mates = cases_by_cell(kernel)
    found = []
    for point in points_of(kernel, DEEDS):
        cells = all_reached(kernel, point)
        for number, (choice, _) in enumerate(point_cases(kernel, point)):
            one = (point, number)
            for other in mates[(choice[2],) + cells[number][:2]]:
                if other[0] >= point and do_cross(kernel, point, other[0]):
                    found.extend(race_cases_of(kernel, one, other))
            check_many(len(found))
    return found


def race_cases_of(kernel, one, other):
    """The race cases of two pairs (point, number) that have the same rests, arrays and offsets."""
    if meeting_rows(all_reached(kernel, one[0])[one[1]], all_reached(kernel, other[0])[other[1]]) is None:
        return []
    lane = point_cases(kernel, one[0])[one[1]][0][0]
    mate = point_cases(kernel, other[0])[other[1]][0][0]
    return [(one, other, how) for how in hows_for(kernel, one, other) if how != "same" or lane != mate]


def race_cases(kernel):
    """All race cases, ascending by the two pairs, and how in its order."""
    check_kernel(kernel)
    return list(all_race_cases(kernel))


def saying_for(kernel, case, more):
    """The saying of a race case, and behind it more rows."""
    rows = [said(row) for row in cell_rows(kernel, case) + list(more)]
    return "and", tuple([beside_saying(kernel, case)] + rows)


def race_saying(kernel, case):
    """The saying of a race case."""
    check_kernel(kernel)
    if not is_race_case(kernel, case):
        raise BadPair("this is no race case")
    return saying_for(kernel, case, ())


class Outlines:
    """Short keys for the sayings of race cases: many of these have one saying, which is looked at once.

    zones and trees are what was told by keys already.
    """

    def __init__(self, kernel):
        self.kernel = kernel
        self.numbers = {}
        self.systems = {}
        self.betweens = {}
        self.empty = {}
        self.firm = {}
        self.zones = {}
        self.trees = {}

    def number_for(self, thing):
        """A number that stands for a thing that is a key."""
        return self.numbers.setdefault(thing, len(self.numbers))

    def system_key(self, pair):
        """What stands for the system of a pair (point, number)."""
        if pair not in self.systems:
            system = point_cases(self.kernel, pair[0])[pair[1]][1]
            self.systems[pair] = self.number_for(tuple(system))
        return self.systems[pair]

    def between_key(self, case):
        """What stands for the sayings about meetings of a race case."""
        one, other, how = case
        if how != "same":
            return 0
        first = point_cases(self.kernel, one[0])[one[1]][0]
        second = point_cases(self.kernel, other[0])[other[1]][0]
        key = (one[0], first[:3], other[0], second[1])
        if key not in self.betweens:
            self.betweens[key] = self.number_for(repr(parts_between(self.kernel, case)))
        return self.betweens[key]

    def base_key(self, case, more):
        """What stands for the rows of a race case with more rows."""
        one, other, how = case
        return self.system_key(one), self.system_key(other), how, tuple(cell_rows(self.kernel, case)) + more

    def is_empty(self, case, more):
        """Whether no numbers keep the rows of a race case with more rows."""
        # Of one block on an axis none is less than another one there: this need not be weighed.
        if case[2] != "same" and self.kernel.blocks[int(case[2][-1])] == ("none", None, 1):
            return True
        key = self.base_key(case, more)
        if key not in self.empty:
            rows = base_rows(self.kernel, case) + cell_rows(self.kernel, case) + list(more)
            self.empty[key] = weighed(rows, {})[0] is None
        return self.empty[key]

    def firm_between(self, case):
        """A pair: what stands for the simpler sayings about meetings of a race case, and these."""
        one, other, how = case
        if how != "same":
            return 0, []
        first = point_cases(self.kernel, one[0])[one[1]][0]
        second = point_cases(self.kernel, other[0])[other[1]][0]
        key = one[0], first[0], first[1], first[2], other[0], second[1]
        if key not in self.firm:
            parts = firm_parts(self.kernel, one[0], first, other[0], second)
            self.firm[key] = self.number_for(repr(parts)), parts
        return self.firm[key]

    def key_of(self, case, more):
        """What stands for the saying of a race case with more rows: equal for two exactly if their sayings are."""
        return self.base_key(case, more) + (self.between_key(case),)


def outlines_of(kernel):
    """The outlines of a kernel's race cases. They are kept with the kernel."""
    if "outlines" not in kernel.held:
        kernel.held["outlines"] = Outlines(kernel)
    return kernel.held["outlines"]


def race_region(kernel):
    """The region of the sizes with a race."""
    check_kernel(kernel)
    if "race region" not in kernel.held:
        kernel.held["race region"] = region_of(kernel, plain_cases(kernel))
    return kernel.held["race region"]


def plain_cases(kernel):
    """All race cases, each with the rows, none, that are asked for beside its saying."""
    return [(case, ()) for case in all_race_cases(kernel)]


def region_of(kernel, asked):
    """The region of the sizes at which some of what is asked holds: pairs of a race case and a tuple of more rows."""
    lots = Lots(kernel)
    outlines = outlines_of(kernel)
    for case, more in asked:
        if outlines.is_empty(case, more):
            continue
        number, parts = outlines.firm_between(case)
        key = outlines.base_key(case, more) + (number,)
        if key not in outlines.zones:
            rows = base_rows(kernel, case) + cell_rows(kernel, case) + list(more)
            outlines.zones[key] = lots.tiles_if_kept(rows, parts)
        rests = point_cases(kernel, case[0][0])[case[0][1]][0][2]
        lots.take_in(rests, outlines.zones[key])
    return lots.region()


def race(kernel):
    """The first race at the least sizes that have one, None if there is none."""
    sizes = race_region(kernel).least()
    if sizes is None:
        return None
    one, other = races_at(kernel, sizes)[0]
    return sizes, one, other


def race_papers(kernel):
    """For each race case a tree that shows that its saying holds nowhere; None if there is a race."""
    if race_region(kernel):
        return None
    return papers_of(kernel, plain_cases(kernel))


def papers_of(kernel, asked):
    """For each race case of what is asked, as by region_of, a tree that shows that it holds nowhere."""
    outlines = outlines_of(kernel)
    found = {}
    for case, more in asked:
        key = outlines.key_of(case, more)
        if key not in outlines.trees:
            outlines.trees[key] = tree_for([(saying_for(kernel, case, more), True)])
        found[case] = outlines.trees[key]
    return found


def are_race_papers(kernel, thing):
    """Whether thing has for each race case a tree that shows that its saying holds nowhere."""
    check_kernel(kernel)
    return are_papers_of(kernel, plain_cases(kernel), thing)


def are_papers_of(kernel, asked, thing):
    """Whether thing has for each race case of what is asked a tree that shows that it holds nowhere."""
    if not has_just_keys(thing, [case for case, _ in asked]):
        return False
    for case, more in asked:
        if not is_tree_for([(saying_for(kernel, case, more), True)], thing[case]):
            return False
    return True


def verdict(kernel):
    """The regions of the sizes with one outcome, of those where the kernel is parted, and of those with a race."""
    check_kernel(kernel)
    parted = parted_region(kernel)
    raced = race_region(kernel) - parted
    return all_sizes(kernel.sizes, kernel.promises) - parted - raced, parted, raced


def verdict_at(kernel, sizes):
    """Which of the three regions of the verdict the sizes belong to: "one", "parted" or "race"."""
    check_at(kernel, sizes)
    if sizes in parted_region(kernel):
        return "parted"
    return "race" if sizes in race_region(kernel) else "one"
