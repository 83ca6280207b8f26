"""The deeds at given sizes, which of them are held ahead of others, and which pairs of them are loose."""

from lanesmeet.cases import DEEDS, check_at
from lanesmeet.errors import StandsStill, TooMany
from lanesmeet.machine import Run
from lanesmeet.races import races_at

MOST_OUTCOMES = 1000


def meetings_along(run, pair):
    """The steps of the meetings in a lane's list."""
    return [(one[0], one[3]) for one in run.lists[pair] if run.word_of(one) == "meet"]


def stands_still(run):
    """Whether lanes of one block come to unlike meetings: then the block stands still by every order."""
    for block in run.blocks:
        first = meetings_along(run, (block, run.lanes[0]))
        if any([meetings_along(run, (block, lane)) != first for lane in run.lanes]):
            return True
    return False


class Spot:
    """Where a deed stands: its block and lane, its rank among the lane's deeds, how many meetings are ahead of it."""

    def __init__(self, pair, rank, phase):
        self.pair = pair
        self.rank = rank
        self.phase = phase


class Weft:
    """All deeds of a kernel at sizes, by their spots, and the loose pairs.

    lanes has each lane's deeds, in order; firsts the first of these with so many meetings, or more, ahead of it.
    """

    def __init__(self, kernel, sizes):
        check_at(kernel, sizes)
        self.kernel = kernel
        self.sizes = {name: sizes[name] for name in sorted(sizes)}
        run = Run(kernel, sizes)
        if stands_still(run):
            raise StandsStill("the kernel is parted at these sizes")
        self.spots = {}
        self.lanes = {}
        self.firsts = {}
        for pair in run.lists:
            self.note_lane(run, pair)
        self.loose = races_at(kernel, sizes)
        self.mates = {}
        for one, other in self.loose:
            self.mates.setdefault(one, []).append(other)
            self.mates.setdefault(other, []).append(one)

    def note_lane(self, run, pair):
        """Notes the deeds of a lane, and where they stand."""
        deeds = []
        firsts = []
        phase = 0
        for one in run.lists[pair]:
            if run.word_of(one) not in DEEDS:
                phase = phase + 1
                continue
            self.spots[one] = Spot(pair, len(deeds), phase)
            deeds.append(one)
            firsts.extend([one] * (phase + 1 - len(firsts)))
        self.lanes[pair] = deeds
        self.firsts[pair] = firsts

    def fresh_run(self):
        """A run that stands where no deed is done."""
        return Run(self.kernel, self.sizes)

    def is_ahead(self, one, other):
        """Whether a deed is held ahead of another one."""
        first = self.spots[one]
        second = self.spots[other]
        if first.pair == second.pair:
            return first.rank < second.rank
        return first.pair[0] == second.pair[0] and first.phase < second.phase

    def held_next(self, deed):
        """Deeds that this one is held ahead of, from which all others of these are come to."""
        spot = self.spots[deed]
        found = self.lanes[spot.pair][spot.rank + 1:spot.rank + 2]
        for pair in self.firsts:
            if pair[0] == spot.pair[0]:
                found = found + self.firsts[pair][spot.phase + 1:spot.phase + 2]
        return found


class Order:
    """Which of the deeds of some loose pairs must be done ahead of which: numbers for them, and dicts of these.

    reach has for each number a dict from all that must be done behind it to True.
    """

    def __init__(self, weft, pairs):
        self.deeds = sorted(set([deed for pair in pairs for deed in pair]))
        self.numbers = {deed: at for at, deed in enumerate(self.deeds)}
        self.pairs = [(self.numbers[one], self.numbers[other]) for one, other in pairs]
        self.reach = [{at: True for at, other in enumerate(self.deeds) if weft.is_ahead(deed, other)}
                      for deed in self.deeds]

    def told_ways(self, ways):
        """Ways, told by numbers, as an ascending tuple of pairs of deeds."""
        return tuple(sorted([(self.deeds[one], self.deeds[other]) for one, other in ways]))

    def settlements(self):
        """Pairs (ways, reach), one for each way in which all pairs can be settled; TooMany for more than 1000."""
        waiting = [(0, self.reach, [])]
        found = []
        while waiting:
            start, reach, ways = waiting.pop()
            for at in range(start, len(self.pairs)):
                one, other = self.pairs[at]
                if one in reach[other]:
                    one, other = other, one
                elif other not in reach[one]:
                    # Whatever is settled so far without a ring can be settled to the end, so each of these counts.
                    waiting.append((at + 1, linked(reach, other, one), ways + [(other, one)]))
                    if len(found) + len(waiting) >= MOST_OUTCOMES:
                        raise TooMany(MOST_OUTCOMES)
                    reach = linked(reach, one, other)
                ways = ways + [(one, other)]
            found.append((ways, reach))
        return found

    def written(self, ways, reach):
        """Those of the ways that no row of further deeds tells."""
        return self.told_ways([(one, other) for one, other in ways
                               if not any([other in reach[between] for between in reach[one]])])

    def with_ways(self, ways):
        """The reach that comes of ways, pairs of deeds."""
        reach = self.reach
        for one, other in ways:
            reach = linked(reach, self.numbers[one], self.numbers[other])
        return reach


def linked(reach, one, other):
    """The reach if one must be done ahead of the other, too; what stays as it is is shared with the old one."""
    if other in reach[one]:
        return reach
    more = list(reach[other]) + [other]
    return [with_numbers(own, more) if at == one or one in own else own for at, own in enumerate(reach)]


def with_numbers(known, more):
    """A dict from the keys of another one and more numbers to True."""
    found = {number: True for number in known}
    for number in more:
        found[number] = True
    return found
