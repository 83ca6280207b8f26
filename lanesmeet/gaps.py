"""The fewest gaps of a nest whose meetings let a plan go right at all sizes."""

from lanesmeet.cases import check_many, loop_rows, point_cases
from lanesmeet.cuts import cut
from lanesmeet.errors import Missed, TooMany, Torn
from lanesmeet.fields import places_of, zone_by
from lanesmeet.folding import all_of, bound, simple, some_of
from lanesmeet.hits import MOST_GAPS, first_hits, new_tree
from lanesmeet.making import is_mark, woven_for
from lanesmeet.needed import is_in
from lanesmeet.nests import items_of
from lanesmeet.pairs import Stand, base_rows, bound_turn, first_stand, order_saying, second_stand, short_signs
from lanesmeet.plans import Plan
from lanesmeet.races import all_race_cases, cell_rows, outlines_of
from lanesmeet.regions import rank
from lanesmeet.tearing import Ledger
from lanesmeet.ways import names_of
from lanesmeet.wording import bound_in, said
from lanesmeet.wrongs import first_missed, first_torn
from lanesmeet.zones import thinned


def all_gaps(nest):
    """All gaps of a nest, ascending."""
    items = items_of(nest)
    found = [(seat, number) for seat in items for number in range(len(items[seat]) + 1)]
    return sorted(found, key=rank)


class Opening:
    """A gap in a kernel that is made: the loops around a meeting there, and the statements ahead of it.

    parts has for points of two deeds, and how short turns stand to theirs, the saying that a meeting is between.
    """

    def __init__(self, loops, ahead_of_it):
        self.loops = loops
        self.ahead_of_it = ahead_of_it
        self.parts = {}

    def loop_names(self, wanted):
        """The names of its loops of a sort, the outermost first."""
        return [name for sort, name, _ in self.loops if sort == wanted]

    def all_shorts(self, kernel):
        """The turns of its short loops, all tuples of them."""
        found = [()]
        for sort, _, point in self.loops:
            if sort == "short":
                count = kernel.statements[point][2]
                found = [turns + (turn,) for turns in found for turn in range(count)]
        return found

    def passed(self, kernel, pair, stand, mate):
        """The saying that a meeting there stands between two steps, the deeds being at a pair of points."""
        names = self.loop_names("short")
        found = {}
        for turns in self.all_shorts(kernel):
            signs = short_signs(names, turns, stand, mate)
            if signs not in found:
                if (pair, signs) not in self.parts:
                    meeting = Stand(self.loops, 2 * self.ahead_of_it, dict(zip(names, turns)), "Turn ", "")
                    self.parts[(pair, signs)] = self.passed_by(kernel, meeting, stand, mate)
                found[signs] = self.parts[(pair, signs)]
        return some_of(list(found.values()))

    def passed_by(self, kernel, meeting, stand, mate):
        """The saying that a meeting of some turn of its long loops stands between two steps."""
        rows = [row for sort, _, point in self.loops if sort == "long" for row in loop_rows(kernel.statements[point])]
        own = [said((bound_turn(a), bound_turn(b), c)) for a, b, c in rows]
        order = simple(order_saying(meeting, stand, mate))
        return bound(list(meeting.turn_names()), all_of(own + [order]))


def openings_of(nest, woven):
    """Each gap of the nest as it lies in the kernel that is made."""
    ends = {old: at for at, old in enumerate(woven.sheet.olds) if is_mark(old, "long") or is_mark(old, "short")}
    found = {}
    for (seat, number), ahead in woven.sheet.marks:
        loops = ()
        if seat:
            outers = [outer for _, _, outer in nest.loops[seat[0]]] + ([seat[0]] if seat[1] is None else [])
            for outer in outers:
                for sort in ("long", "short"):
                    if (sort, outer) in ends:
                        point = ends[(sort, outer)]
                        loops = loops + ((sort, woven.kernel.statements[point][1], point),)
        found[(seat, number)] = Opening(loops, ahead)
    return found


class Sifter:
    """The search for the lots of gaps that races pass, within which no other one lies.

    passings has for points and short turns of two deeds a number, and the sayings that each gap is passed.
    """

    def __init__(self, kernel, openings):
        self.kernel = kernel
        self.openings = openings
        self.outlines = outlines_of(kernel)
        self.passings = {}
        self.lots = []
        self.parts = 0

    def sift(self):
        """Looks at all race cases, those that are told alike once."""
        known = {}
        for case in all_race_cases(self.kernel):
            if self.outlines.is_empty(case, ()):
                continue
            number, beside = self.outlines.firm_between(case)
            mark, sayings = self.passings_for(case)
            key = self.outlines.base_key(case, ()) + (number, mark)
            if key not in known:
                known[key] = True
                self.look_at_race(case, beside, sayings)

    def passings_for(self, case):
        """A pair: what stands for the sayings that each gap is passed between the deeds of a race case, and these."""
        (one, number), (other, index), _ = case
        first = point_cases(self.kernel, one)[number][0]
        second = point_cases(self.kernel, other)[index][0]
        key = one, first[1], other, second[1]
        if key not in self.passings:
            stand = first_stand(self.kernel, one, first)
            mate = second_stand(self.kernel, other, second)
            sayings = [opening.passed(self.kernel, (one, other), stand, mate) for opening in self.openings]
            self.passings[key] = self.outlines.number_for(repr(sayings)), sayings
        return self.passings[key]

    def look_at_race(self, case, beside, sayings):
        """Finds the lots of a race case, with sayings that it is side by side and that gaps are passed."""
        rows = base_rows(self.kernel, case) + cell_rows(self.kernel, case)
        names = ["Turn " + name for opening in self.openings for name in opening.loop_names("long")]
        names = names + [name for saying in beside for name in bound_in(saying)]
        places = places_of(names_of(rows) + sorted(set(names)))
        zones = cut(zone_by(rows, places), ("and", tuple(beside)), True, places)
        self.sift_zones(zones, sayings, places, 0, ())

    def sift_zones(self, zones, sayings, places, at, passed):
        """Parts the zones gap after gap from at on, passed being those that were passed."""
        if not zones or any([is_in(lot, passed) for lot in self.lots]):
            return
        self.parts = self.parts + 1
        check_many(self.parts)
        if at == len(sayings):
            self.lots = [lot for lot in self.lots if not is_in(passed, lot)] + [passed]
            return
        rest = thinned([piece for zone in zones for piece in cut(zone, sayings[at], False, places)])
        self.sift_zones(rest, sayings, places, at + 1, passed)
        behind = thinned([piece for zone in zones for piece in cut(zone, sayings[at], True, places)])
        self.sift_zones(behind, sayings, places, at + 1, passed + (at,))


def check_right(nest, plan, gaps):
    """Raises Missed, Torn, or TooMany(16) for too many gaps, which stands ahead of TooMany(20000)."""
    woven = woven_for(nest, plan)
    ledger = Ledger(nest, woven)
    try:
        found = first_missed(ledger)
        if found is not None:
            raise Missed(found[0], found[1])
        found = first_torn(ledger)
        if found is not None:
            raise Torn(found[0], found[1], found[2])
    except TooMany:
        if len(gaps) <= MOST_GAPS:
            raise
    if len(gaps) > MOST_GAPS:
        raise TooMany(MOST_GAPS)


def with_plan_gaps(plan, gaps):
    """The plan with other gaps."""
    return Plan(plan.width, plan.lanes, plan.blocks, plan.roles, gaps, plan.copies)


def fewest_gaps(nest, plan):
    """The plan with the fewest gaps with which nothing is wrong at any sizes, and a tree for one gap less."""
    woven_for(nest, plan)
    gaps = all_gaps(nest)
    check_right(nest, plan, gaps)
    woven = woven_for(nest, with_plan_gaps(plan, ()))
    openings = openings_of(nest, woven)
    sifter = Sifter(woven.kernel, [openings[gap] for gap in gaps])
    sifter.sift()
    lots = sorted(sifter.lots)
    if not lots:
        return with_plan_gaps(plan, ()), None
    numbers = first_hits(len(gaps), lots)
    return with_plan_gaps(plan, tuple([gaps[number] for number in numbers])), new_tree(lots, len(numbers) - 1)
