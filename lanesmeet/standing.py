"""Where instances are there: zones of tiles, blocks and turns, told for all sizes, and how many points they have."""

from lanesmeet.cases import check_many, long_loops, point_cases
from lanesmeet.counting import Tally, counted
from lanesmeet.fields import places_of, viewed, zone_by
from lanesmeet.forms import all_rests
from lanesmeet.zones import is_covered, outside, thinned

BLOCKS = ("block 0", "block 1")


def tiles_of(kernel):
    """The names of the tiles of the sizes, in order."""
    return ["tiles " + size[0] for size in kernel.sizes]


def stand_names(kernel, point):
    """The names of the places in the zones of a point, in order."""
    return tiles_of(kernel) + list(BLOCKS) + turn_names(kernel, point)


def turn_names(kernel, point):
    """The names of the turns of the long loops around a point, the outermost first."""
    return ["turn " + name for name in long_loops(kernel, point)]


def case_zones(kernel, point):
    """For each case of a point its zone, None for one without a point. They are kept with the kernel."""
    key = ("zones", point)
    if key not in kernel.held:
        places = places_of(stand_names(kernel, point))
        known = {}
        found = []
        for _, system in point_cases(kernel, point):
            rows = tuple(system)
            if rows not in known:
                known[rows] = zone_by(rows, places)
            found.append(known[rows])
        kernel.held[key] = found
    return kernel.held[key]


def cell_name(axis):
    """The name of the tile of a cell on an axis."""
    return f"cell {axis}"


def cell_names(count):
    """The names of the tiles of a cell, on so many axes."""
    return [cell_name(axis) for axis in range(count)]


def cell_view(kernel, point, zone, tiles, names):
    """A zone of a point, seen at the tiles of the sizes, the cell's tiles as reached tells, and these names."""
    places = places_of(stand_names(kernel, point))
    heads = [(places[name], 0) for name in [None] + tiles_of(kernel)]
    cells = [(places[name], number) for name, number in tiles]
    return viewed(zone, heads + cells + [(places[name], 0) for name in names])


def told_cases(kernel, points):
    """The cases of points that are not empty, as triples (point, choice, zone); TooMany for more than 20000 in all."""
    found = []
    count = 0
    for point in points:
        cases = point_cases(kernel, point)
        count = count + len(cases)
        check_many(count)
        pairs = list(zip(cases, case_zones(kernel, point)))
        found.extend([(point, choice, zone) for (choice, _), zone in pairs if zone is not None])
    return found


def add_zone(zones, zone):
    """Adds a zone to a list of zones, unless it lies within one of them."""
    if not is_covered(zone, zones):
        zones.append(zone)


def apart(zones):
    """Zones without common points that have together all points of the zones."""
    own = thinned(zones)
    found = []
    for at, zone in enumerate(own):
        found.extend(outside([zone], own[:at]))
    return found


def zones_key(names, zones):
    """What stands for zones with these names."""
    return tuple(names), tuple([tuple([tuple(row) for row in zone]) for zone in zones])


class Sums:
    """For each tuple of rests, what is to be counted: lots of zones, each so many times."""

    def __init__(self, kernel):
        self.kernel = kernel
        self.times = {rests: {} for rests in all_rests(kernel.sizes)}
        self.lots = {}

    def add_lot(self, rests, names, zones, times):
        """Adds the points of zones, whose places have these names, so many times."""
        key = zones_key(names, zones)
        self.lots[key] = names, zones
        self.times[rests][key] = self.times[rests].get(key, 0) + times

    def told_sums(self):
        """For each tuple of rests the told sum of how many points there are, for the tiles of the sizes."""
        kept = tiles_of(self.kernel)
        pieces = {}
        for key in self.lots:
            names, zones = self.lots[key]
            pieces[key] = [piece for zone in apart(zones) for piece in counted(zone, names, kept)]
        found = {}
        for rests in self.times:
            tally = Tally()
            for key in self.times[rests]:
                for zone, names, poly in pieces[key]:
                    tally.take_in(zone, names[1:], poly, self.times[rests][key])
            found[rests] = tally.sum_told()
        return found
