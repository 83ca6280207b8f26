"""Regions: lots of sizes, told for all tuples of rests by sayings about tiles."""

from lanesmeet.cuts import cut, named_rows, places_for
from lanesmeet.errors import BadName, BadPromises, BadRests, BadSizes, BadTold, OtherSizes
from lanesmeet.forms import WIDEST, all_rests, are_promises, are_sizes, are_sizes_at, promise_rows, tiles_name
from lanesmeet.papers import is_tree_for
from lanesmeet.plain import has_bool, has_just_keys
from lanesmeet.prover import tree_for
from lanesmeet.wording import fits, free_in, one_of
from lanesmeet.zones import common, has_numbers, outside, thinned, tightened_by, whole


def rank(thing):
    """What stands for thing where values of unlike kinds are put in order: None, numbers, strings, tuples, others."""
    if thing is None:
        return (0,)
    if isinstance(thing, int):
        return 1, int(thing)
    if isinstance(thing, str):
        return 2, thing
    if isinstance(thing, tuple):
        return 3, tuple([rank(item) for item in thing])
    return (4,)


def tiles_names(sizes):
    """The names for the tiles of the sizes, in their order."""
    return [tiles_name(name) for name, _ in sizes]


def is_about(saying, names):
    """Whether saying is one whose free names are among the names."""
    return fits(saying, ()) and all([name in names for name in free_in(saying)])


def check_told(sizes, told):
    """Raises BadTold with the least key that cannot stand, with None for no dict."""
    if not isinstance(told, dict):
        raise BadTold(None)
    known = {rests: True for rests in all_rests(sizes)}
    names = tiles_names(sizes)
    wrong = [key for key in told if has_bool(key) or key not in known or not is_about(told[key], names)]
    if wrong:
        raise BadTold(min(wrong, key=rank))


def check_sizes(sizes, promises):
    """Raises BadSizes or BadPromises for what cannot stand there."""
    if not are_sizes(sizes, WIDEST):
        raise BadSizes("sizes are at most 3 names with rests")
    if not are_promises(promises, sizes):
        raise BadPromises("promises are at most 8 rows of names of sizes")


def floor_zones(sizes, promises):
    """The zones, one or none, of all tiles that are at least 0 and keep the promises."""
    places = {name: at + 1 for at, name in enumerate(tiles_names(sizes))}
    places[None] = 0
    rows = [(0, place, 0) for place in range(1, len(sizes) + 1)]
    rows = rows + [(places[a], places[b], c) for a, b, c in promise_rows(promises)]
    zone = tightened_by(whole(len(sizes) + 1), rows)
    return [] if zone is None else [zone]


def lot_of(floor, saying, names):
    """The zones of the points of the floor at which the saying holds."""
    places = places_for(names, saying)
    found = []
    for zone in floor:
        wide = [row + [None] * (len(places) - len(row)) for row in zone]
        wide = wide + whole(len(places))[len(zone):]
        found = found + cut(wide, saying, True, places)
    count = len(names) + 1
    return thinned([[row[:count] for row in zone[:count]] for zone in found])


def lows_of(zone):
    """The least numbers of a zone."""
    return tuple([-bound for bound in zone[0][1:]])


class Region:
    """A lot of sizes. lots tells, for each tuple of rests, the zones of the tiles that belong to it."""

    def __init__(self, sizes, promises, told):
        check_sizes(sizes, promises)
        check_told(sizes, told)
        self.sizes = sizes
        self.promises = promises
        floor = floor_zones(sizes, promises)
        names = tiles_names(sizes)
        self.lots = {rests: lot_of(floor, told[rests], names) if rests in told else [] for rests in all_rests(sizes)}

    def systems_for(self, rests):
        """The rows of each of the zones for these rests."""
        names = tiles_names(self.sizes)
        return [named_rows(zone, names) for zone in self.lots[rests]]

    def like(self, lots):
        """The region of the same sizes with these zones, for each tuple of rests."""
        names = tiles_names(self.sizes)
        told = {rests: one_of([named_rows(zone, names) for zone in lots[rests]]) for rests in lots}
        return Region(self.sizes, self.promises, told)

    def check_like(self, other):
        """Raises OtherSizes for what is no region of the same sizes and promises."""
        if not isinstance(other, Region) or self.sizes != other.sizes or self.promises != other.promises:
            raise OtherSizes("regions of unlike sizes or promises")

    def __contains__(self, x):
        if not are_sizes_at(self.sizes, self.promises, x):
            return False
        rests = tuple([x[name][1] for name, _ in self.sizes])
        tiles = [0] + [x[name][0] for name, _ in self.sizes]
        return any([has_numbers(zone, tiles) for zone in self.lots[rests]])

    def __bool__(self):
        return any([len(self.lots[rests]) > 0 for rests in self.lots])

    def __or__(self, other):
        self.check_like(other)
        return self.like({rests: thinned(self.lots[rests] + other.lots[rests]) for rests in self.lots})

    def __and__(self, other):
        self.check_like(other)
        return self.like({rests: common(self.lots[rests], other.lots[rests]) for rests in self.lots})

    def __sub__(self, other):
        self.check_like(other)
        return self.like({rests: outside(self.lots[rests], other.lots[rests]) for rests in self.lots})

    def __invert__(self):
        floor = floor_zones(self.sizes, self.promises)
        return self.like({rests: outside(floor, self.lots[rests]) for rests in self.lots})

    def __eq__(self, other):
        if not isinstance(other, Region) or self.sizes != other.sizes or self.promises != other.promises:
            return False
        return self.covers(other) and other.covers(self)

    def covers(self, other):
        """Whether all sizes of the other region, of the same sizes and promises, belong to this one."""
        return not any([len(outside(other.lots[rests], self.lots[rests])) > 0 for rests in self.lots])

    def within(self, other):
        """Whether all sizes of this region belong to the other one."""
        self.check_like(other)
        return other.covers(self)

    def told(self, rests):
        """The systems of the tiles that belong to the region with these rests."""
        if has_bool(rests) or not isinstance(rests, tuple) or rests not in all_rests(self.sizes):
            raise BadRests("this is no tuple of a rest for each size")
        return self.systems_for(rests)

    def least(self):
        """The sizes of the region with the least sum of tiles, then the least by tiles, then by rests; or None."""
        found = [(sum(lows_of(zone)), lows_of(zone), rests) for rests in self.lots for zone in self.lots[rests]]
        if not found:
            return None
        _, tiles, rests = min(found)
        pairs = {size[0]: (tiles[at], rests[at]) for at, size in enumerate(self.sizes)}
        return {name: pairs[name] for name in sorted(pairs)}

    def most(self, name):
        """The greatest tiles of this size in the region, None if there are none, -1 if the region has no sizes."""
        names = [own for own, _ in self.sizes]
        if not isinstance(name, str) or name not in names:
            raise BadName("this is no name of a size")
        place = names.index(name) + 1
        highs = [zone[place][0] for rests in self.lots for zone in self.lots[rests]]
        return None if None in highs else max(highs, default=-1)

    def claims(self, other, rests):
        """The claims that the other region does not have what this one has with these rests."""
        return [(one_of(self.systems_for(rests)), True), (one_of(other.systems_for(rests)), False)]

    def shown(self, other):
        """For all tuples of rests a tree that shows that this region is within the other one; None if it is not."""
        if not self.within(other):
            return None
        return {rests: tree_for(self.claims(other, rests)) for rests in all_rests(self.sizes)}

    def is_shown(self, other, thing):
        """Whether thing shows, as shown does, that this region is within the other one."""
        self.check_like(other)
        if not has_just_keys(thing, all_rests(self.sizes)):
            return False
        return all([is_tree_for(self.claims(other, rests), thing[rests]) for rests in all_rests(self.sizes)])


def all_sizes(sizes, promises):
    """The region of all sizes that keep the promises."""
    check_sizes(sizes, promises)
    return Region(sizes, promises, {rests: ("and", ()) for rests in all_rests(sizes)})
