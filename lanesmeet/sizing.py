"""Lots of tiles that are told by rows and sayings, and the regions that they make."""

from lanesmeet.cuts import named_rows, zones_of
from lanesmeet.forms import all_rests, tiles_name
from lanesmeet.regions import Region
from lanesmeet.ways import weighed
from lanesmeet.wording import free_in, one_of, said
from lanesmeet.zones import is_covered, thinned


class Lots:
    """For each tuple of rests the zones of tiles that were told so far."""

    def __init__(self, kernel):
        self.kernel = kernel
        self.names = [tiles_name(name) for name, _ in kernel.sizes]
        self.zones = {rests: [] for rests in all_rests(kernel.sizes)}

    def tiles_where(self, rows, parts):
        """The zones of the tiles for which some numbers keep the rows, and all parts hold."""
        if weighed(rows, {})[0] is None:
            return []
        saying = ("and", tuple([said(row) for row in rows] + parts))
        others = [name for name in free_in(saying) if name not in self.names]
        count = len(self.names) + 1
        zones = zones_of(saying, self.names + others)
        return thinned([[row[:count] for row in zone[:count]] for zone in zones])

    def take_in(self, rests, zones):
        """Adds zones to those of the rests."""
        fresh = [zone for zone in zones if not is_covered(zone, self.zones[rests])]
        if fresh:
            self.zones[rests] = thinned(self.zones[rests] + fresh)

    def region(self):
        """The region of all that was taken in."""
        told = {rests: one_of([named_rows(zone, self.names) for zone in self.zones[rests]]) for rests in self.zones}
        return Region(self.kernel.sizes, self.kernel.promises, told)
