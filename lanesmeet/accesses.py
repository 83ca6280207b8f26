"""Accesses of crews to shared arrays: the greatest lots of cells that they come to, for all sizes."""

from lanesmeet.cases import point_cases, reached
from lanesmeet.crews import crew_of
from lanesmeet.edging import array_of
from lanesmeet.fields import least_numbers
from lanesmeet.finding import all_turns, block_of, sizes_of
from lanesmeet.layings import is_cell_of
from lanesmeet.standing import add_zone, case_zones, stand_names
from lanesmeet.zones import bare_rows, is_covered, thinned, tightened_by


def grid_cell(counts, numbers):
    """The cell (y, x) that the numbers of a shared place tell, None if it is beyond."""
    cell = (0, numbers[0]) if len(numbers) == 1 else numbers
    return cell if is_cell_of(counts, cell) else None


class Gatherer:
    """The greatest lots so far, each with a tuple (crew, short turns, rests, zone) of accesses that have it."""

    def __init__(self):
        self.lots = {}

    def is_spare(self, lot):
        """Whether all cells of the lot are in one that was found."""
        for own in self.lots:
            if all([cell in own for cell in lot]):
                return True
        return False

    def enter(self, lot, told):
        """Adds a lot, and drops those within it."""
        self.lots = {own: self.lots[own] for own in self.lots if not all([cell in lot for cell in own])}
        self.lots[lot] = told

    def gather(self, cells, zones, told):
        """Finds the greatest lots of these cells, ascending, where zones tell for each at which points it is in one.

        told are the crew, the numbers of its short turns, and the rests.
        """
        todo = [(0, (), None)]
        while todo:
            at, lot, here = todo.pop()
            if self.is_spare(lot + tuple(cells[at:])):
                continue
            if at == len(cells):
                self.enter(lot, told + (here[0],))
                continue
            own = zones[cells[at]]
            both = own if here is None else met_by(here, own)
            # What comes last is looked at first: great lots ahead of small ones.
            if here is None or not all([is_covered(zone, own) for zone in here]):
                todo.append((at + 1, lot, here))
            if both:
                todo.append((at + 1, lot + (cells[at],), both))


def met_by(zones, others):
    """Zones with just the points that are in one of the zones and in one of the others."""
    both = [tightened_by(zone, bare_rows(other)) for zone in zones for other in others]
    return thinned([zone for zone in both if zone is not None])


def cell_zones(kernel, point, width):
    """For each crew, numbers of short turns and rests the zones at which a lane comes to each cell of the array."""
    counts = array_of(kernel, point)[2]
    found = {}
    for (choice, _), zone in zip(point_cases(kernel, point), case_zones(kernel, point)):
        lane, turns, rests, _ = choice
        cell = grid_cell(counts, reached(kernel, point, choice)[1])
        if zone is not None and cell is not None:
            key = crew_of(kernel, width, lane), turns, rests
            add_zone(found.setdefault(key, {}).setdefault(cell, []), zone)
    return found


def greatest_lots(kernel, point, width):
    """The greatest lots of a point, each with what is told of accesses that have it. They are kept with the kernel."""
    key = ("greatest lots", point, width)
    if key not in kernel.held:
        gatherer = Gatherer()
        found = cell_zones(kernel, point, width)
        for told in found:
            gatherer.gather(sorted(found[told]), found[told], told)
        kernel.held[key] = {lot: gatherer.lots[lot] for lot in sorted(gatherer.lots)}
    return kernel.held[key]


def access_told(kernel, point, told):
    """The access at the least numbers of what is told, by greatest_lots, of a lot."""
    crew, turns, rests, zone = told
    numbers = least_numbers(zone, stand_names(kernel, point))
    return (sizes_of(kernel, rests, numbers), block_of(numbers, ""), crew,
            all_turns(kernel, point, turns, numbers, ""))
