"""Traffic of far memory: how many lines are moved, needed and touched, and at which sizes these numbers part."""

from lanesmeet.cases import DEEDS, points_of, reached
from lanesmeet.crews import check_width, crew_of
from lanesmeet.fields import headed, widened
from lanesmeet.kernels import check_kernel
from lanesmeet.lines import check_lines, is_far_deed
from lanesmeet.sizing import Lots
from lanesmeet.standing import BLOCKS, Sums, add_zone, cell_names, cell_view, stand_names, tiles_of, told_cases
from lanesmeet.standing import turn_names, zones_key
from lanesmeet.zones import bare_rows, tightened, tightened_by


class Comer:
    """A case of a far take, put or add that has a point: its zone, the line and tiles that it comes to."""

    def __init__(self, point, choice, zone, line, tiles):
        self.point = point
        self.choice = choice
        self.zone = zone
        self.line = line
        self.tiles = tiles


def line_key(layout, span, cell):
    """What a line has of a cell, told as by reached, but for its tiles: the array, and offsets or what they make."""
    array, offsets, _ = cell
    axis = layout[array]
    return array, offsets[:axis] + (offsets[axis] // span,) + offsets[axis + 1:]


def comers_of(kernel, layout, span):
    """The comers of all far takes, puts and adds."""
    found = []
    points = [point for point in points_of(kernel, DEEDS) if is_far_deed(kernel, point)]
    for point, choice, zone in told_cases(kernel, points):
        cell = reached(kernel, point, choice)
        found.append(Comer(point, choice, zone, line_key(layout, span, cell), cell[2]))
    return found


def check_moved(kernel, width, layout, span):
    """Raises BadKernel, BadWidth, BadLayout or BadSpan for what cannot stand there."""
    check_kernel(kernel)
    check_width(kernel, width)
    check_lines(kernel, layout, span)


def row_of(kernel, width, comer):
    """What tells the row of a comer but for its block and long turns."""
    lane, turns, _, _ = comer.choice
    return comer.point, crew_of(kernel, width, lane), turns


def moved_sums(kernel, width, layout, span):
    """For each tuple of rests the told sum of how many touches there are."""
    check_moved(kernel, width, layout, span)
    zones = {}
    for comer in comers_of(kernel, layout, span):
        # Two lanes of one row come to one line if the numbers ahead of block and turns are equal, too.
        numbers = tuple([number for _, number in comer.tiles])
        key = row_of(kernel, width, comer), comer.choice[2], comer.line, numbers
        add_zone(zones.setdefault(key, []), comer.zone)
    sums = Sums(kernel)
    for key in zones:
        sums.add_lot(key[1], stand_names(kernel, key[0][0]), zones[key], 1)
    return sums.told_sums()


def views_by_line(kernel, comers, names):
    """The zones of tiles, cells and these names, by rests and lines."""
    found = {}
    for comer in comers:
        view = cell_view(kernel, comer.point, comer.zone, comer.tiles, names)
        add_zone(found.setdefault((comer.choice[2], comer.line), []), view)
    return found


def sums_by_line(kernel, layout, span, names):
    """For each tuple of rests the told sum of how many tuples of lines and numbers for these names there are."""
    views = views_by_line(kernel, comers_of(kernel, layout, span), names)
    sums = Sums(kernel)
    for rests, line in views:
        own = tiles_of(kernel) + cell_names(len(line[1])) + names
        sums.add_lot(rests, own, views[(rests, line)], 1)
    return sums.told_sums()


def needed_sums(kernel, layout, span):
    """For each tuple of rests the told sum of how many pairs of a block and a line that it touches there are."""
    check_kernel(kernel)
    check_lines(kernel, layout, span)
    return sums_by_line(kernel, layout, span, list(BLOCKS))


def line_sums(kernel, layout, span):
    """For each tuple of rests the told sum of how many lines are touched."""
    check_kernel(kernel)
    check_lines(kernel, layout, span)
    return sums_by_line(kernel, layout, span, [])


class Tiles:
    """The tiles, by rests, at which zones of tiles and what stands behind them have points alike."""

    def __init__(self, kernel):
        self.count = len(kernel.sizes) + 1
        self.lots = Lots(kernel)

    def take_in_both(self, rests, zone, other):
        """Takes in the tiles of the points that both zones have."""
        both = tightened_by(zone, bare_rows(other))
        if both is not None:
            self.lots.take_in(rests, [headed(both, self.count)])

    def take_in_apart(self, rests, zone, other, first):
        """Takes in the tiles of two points, one of each zone, alike at the places ahead of first.

        At one of the places from first on the point of the zone has the lesser number.
        """
        own = list(range(first, len(zone)))
        places = list(range(first)) + [len(zone) + at for at in range(len(own))]
        both = tightened_by(widened(zone, len(own)), [(places[i], places[j], c) for i, j, c in bare_rows(other)])
        for place in own:
            part = None if both is None else tightened(both, place, places[place], -1)
            if part is not None:
                self.lots.take_in(rests, [headed(part, self.count)])

    def take_in_pairs(self, rests, zones, first):
        """Takes in what take_in_apart does, for each of the zones with each."""
        for zone in zones:
            for other in zones:
                self.take_in_apart(rests, zone, other, first)

    def take_in_rows(self, rests, lots):
        """Takes in the tiles of the points that two of the lots of zones have."""
        counts = {}
        distinct = {}
        for zones in lots:
            key = zones_key((), zones)
            counts[key] = counts.get(key, 0) + 1
            distinct[key] = zones
        keys = list(distinct)
        for at, key in enumerate(keys):
            if counts[key] > 1:
                self.lots.take_in(rests, [headed(zone, self.count) for zone in distinct[key]])
            for other in keys[at + 1:]:
                for zone in distinct[key]:
                    for mate in distinct[other]:
                        self.take_in_both(rests, zone, mate)


def again_region(kernel, width, layout, span):
    """The region of the sizes at which some block has two touches of one line."""
    check_moved(kernel, width, layout, span)
    lines = {}
    rows = {}
    for comer in comers_of(kernel, layout, span):
        row = row_of(kernel, width, comer)
        key = comer.choice[2], comer.line
        view = cell_view(kernel, comer.point, comer.zone, comer.tiles, BLOCKS)
        add_zone(lines.setdefault(key, {}).setdefault(row, []), view)
        names = list(BLOCKS) + turn_names(kernel, comer.point)
        view = cell_view(kernel, comer.point, comer.zone, comer.tiles, names)
        add_zone(rows.setdefault(key + (row,), []), view)
    tiles = Tiles(kernel)
    for key in lines:
        tiles.take_in_rows(key[0], list(lines[key].values()))
    for key in rows:
        tiles.take_in_pairs(key[0], rows[key], tiles.count + len(key[1][1]) + len(BLOCKS))
    return tiles.lots.region()


def common_region(kernel, layout, span):
    """The region of the sizes at which two blocks touch one line."""
    check_kernel(kernel)
    check_lines(kernel, layout, span)
    views = views_by_line(kernel, comers_of(kernel, layout, span), BLOCKS)
    tiles = Tiles(kernel)
    for rests, line in views:
        tiles.take_in_pairs(rests, views[(rests, line)], tiles.count + len(line[1]))
    return tiles.lots.region()
