"""Sayings as zones: the points of a zone at which a saying holds."""

from lanesmeet.wording import bound_in, free_in, with_terms
from lanesmeet.zones import bare_rows, loosed, outside, thinned, tightened, whole


def rows_first(parts):
    """The parts, rows ahead of all others: they cost little, and what they strike need not be looked at."""
    return [part for part in parts if part[0] == "row"] + [part for part in parts if part[0] != "row"]


def cut(zone, saying, truth, places):
    """Zones that have together just the points of the zone at which whether the saying holds is truth.

    places tells the place of each name and of None; those of bound names are not told by the zone.
    """
    word = saying[0]
    if word == "row":
        i = places[saying[1]]
        j = places[saying[2]]
        c = saying[3]
        piece = tightened(zone, i, j, c) if truth else tightened(zone, j, i, -c - 1)
        return [] if piece is None else [piece]
    if word == "not":
        return cut(zone, saying[1], not truth, places)
    if word in ("some", "all"):
        return cut_bound(zone, saying, truth, places)
    if truth == (word == "and"):
        return cut_each(zone, saying[1], truth, places)
    return cut_any(zone, saying[1], truth, places)


def cut_each(zone, parts, truth, places):
    """As cut, all parts being asked for."""
    zones = [zone]
    for part in rows_first(parts):
        if not zones:
            return zones
        zones = [piece for one in zones for piece in cut(one, part, truth, places)]
    return thinned(zones)


def cut_any(zone, parts, truth, places):
    """As cut, one of the parts being asked for."""
    found = []
    rest = [zone]
    for part in rows_first(parts):
        found = found + [piece for one in rest for piece in cut(one, part, truth, places)]
        # Pieces of rows are kept apart: otherwise they grow in number with each further saying.
        if part[0] == "row":
            rest = [piece for one in rest for piece in cut(one, part, not truth, places)]
    return thinned(found)


def cut_bound(zone, saying, truth, places):
    """As cut, of a saying that binds names."""
    word, names, inner = saying
    found = cut(zone, inner, word == "some", places)
    own = [places[name] for name in names]
    shed = thinned([loosed(piece, own) for piece in found])
    if truth == (word == "some"):
        return shed
    return outside([zone], shed)


def places_for(names, saying):
    """A place for None, for each of the names, in order, and behind them for each name that the saying binds."""
    places = {None: 0}
    for name in list(names) + sorted(set(bound_in(saying))):
        places[name] = len(places)
    return places


def zones_of(saying, names):
    """The zones at whose points the saying holds: the place 0, and one for each of the names, in order."""
    places = places_for(names, saying)
    found = cut(whole(len(places)), saying, True, places)
    count = len(names) + 1
    return thinned([[row[:count] for row in zone[:count]] for zone in found])


def holds_somewhere(saying):
    """Whether the saying holds at some point."""
    return zones_of(saying, free_in(saying)) != []


def truth_at(saying, point):
    """Whether the saying holds at the point; names that the point does not have stand for 0."""
    word = saying[0]
    if word == "row":
        return point.get(saying[1], 0) - point.get(saying[2], 0) <= saying[3]
    if word == "not":
        return not truth_at(saying[1], point)
    if word in ("some", "all"):
        return holds_somewhere(with_terms(saying, {name: (None, point.get(name, 0)) for name in free_in(saying)}))
    for part in saying[1]:
        if truth_at(part, point) == (word == "or"):
            return word == "or"
    return word == "and"


def named_rows(zone, names):
    """The rows that tell the zone, none of them needless, with names in the place of places."""
    spots = [None] + list(names)
    return [(spots[i], spots[j], c) for i, j, c in bare_rows(zone)]
