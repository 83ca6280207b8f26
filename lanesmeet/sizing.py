"""Lots of tiles that are told by rows and sayings, and the regions that they make."""

from lanesmeet.cuts import cut, named_rows
from lanesmeet.fields import headed, places_of, zone_by
from lanesmeet.forms import all_rests, tiles_name
from lanesmeet.regions import Region
from lanesmeet.ways import names_of, weighed
from lanesmeet.wording import bound_in, names_in, one_of
from lanesmeet.zones import is_covered, thinned


class Lots:
    """For each tuple of rests the zones of tiles that were told so far."""

    def __init__(self, kernel):
        self.kernel = kernel
        self.names = [tiles_name(name) for name, _ in kernel.sizes]
        self.zones = {rests: [] for rests in all_rests(kernel.sizes)}

    def tiles_where(self, rows, parts):
        """The zones of the tiles for which some numbers keep the rows, and all parts hold."""
        return [] if weighed(rows, {})[0] is None else self.tiles_if_kept(rows, parts)

    def tiles_if_kept(self, rows, parts):
        """As tiles_where, where some numbers surely keep the rows."""
        saying = ("and", tuple(parts))
        others = sorted(set(names_of(rows) + names_in(saying)))
        names = self.names + [name for name in others if name not in self.names]
        places = places_of(names + sorted(set(bound_in(saying))))
        zones = cut(zone_by(rows, places), saying, True, places)
        count = len(self.names) + 1
        return thinned([headed(zone, count) for zone in zones])

    def take_in(self, rests, zones):
        """Adds zones to those of the rests."""
        fresh = [zone for zone in zones if not is_covered(zone, self.zones[rests])]
        if fresh:
            self.zones[rests] = thinned(self.zones[rests] + fresh)

    def region(self):
        """The region of all that was taken in."""
        told = {rests: one_of([named_rows(zone, self.names) for zone in self.zones[rests]]) for rests in self.zones}
        return Region(self.kernel.sizes, self.kernel.promises, told)
