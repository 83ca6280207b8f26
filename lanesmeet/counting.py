"""Counting the points of zones: sums over place after place, where the greatest and the least bounds are told.

A piece is a triple (zone, names, poly): names has None and behind it a name for each further place. It tells
of the points of the zone that the poly tells how often each is to be counted.
"""

from lanesmeet.cases import check_many
from lanesmeet.cuts import named_rows
from lanesmeet.fields import narrowed
from lanesmeet.polys import ordered, plus, summed
from lanesmeet.zones import tightened_by


def sharp_bounds(bounds, zone):
    """Of bounds (place, number), each "place + number", those below which no other one always is.

    Of bounds that always are equal the first one stays.
    """
    found = []
    for i, c in bounds:
        spare = False
        for k, d in bounds:
            lower = zone[k][i] is not None and zone[k][i] <= c - d
            equal = zone[i][k] is not None and zone[i][k] <= d - c
            spare = spare or k != i and lower and (not equal or k < i)
        if not spare:
            found.append((i, c))
    return found


def bounds_above(zone, place):
    """The sharp bounds (place, number) of a place from above."""
    bounds = [(i, c) for i, c in enumerate(zone[place]) if c is not None and i != place]
    return sharp_bounds(bounds, zone)


def bounds_below(zone, place):
    """The sharp bounds (place, number) of a place from below."""
    # Turned about, with minus signs, what is the greatest from below is the least from above.
    bounds = [(i, row[place]) for i, row in enumerate(zone) if row[place] is not None and i != place]
    flipped = [[row[at] for row in zone] for at in range(len(zone))]
    return [(other, -c) for other, c in sharp_bounds(bounds, flipped)]


def least_rows(bounds, at):
    """The rows (place, place, number) that say that a bound is the least of all, the first of equal ones."""
    i, c = bounds[at]
    return [(i, k, d - c - (1 if other < at else 0)) for other, (k, d) in enumerate(bounds) if other != at]


def greatest_rows(bounds, at):
    """The rows that say that a bound is the greatest of all, the first of equal ones."""
    i, c = bounds[at]
    return [(k, i, c - d - (1 if other < at else 0)) for other, (k, d) in enumerate(bounds) if other != at]


def best_place(zone, places):
    """The place with the fewest pairs of bounds, its bounds from below and those from above."""
    found = None
    for place in places:
        lows = bounds_below(zone, place)
        highs = bounds_above(zone, place)
        if found is None or len(lows) * len(highs) < len(found[1]) * len(found[2]):
            found = place, lows, highs
    return found


def summed_over(piece, place, lows, highs):
    """The pieces that come of a piece if all numbers of a place are summed up."""
    zone, names, poly = piece
    others = [at for at in range(len(names)) if at != place]
    later = [names[at] for at in others]
    found = []
    for at, (low, more) in enumerate(lows):
        part = tightened_by(zone, greatest_rows(lows, at))
        if part is None:
            continue
        for end, (high, c) in enumerate(highs):
            own = tightened_by(part, least_rows(highs, end))
            if own is not None:
                total = summed(poly, names[place], (names[low], more), (names[high], c))
                found.append((narrowed(own, others), later, total))
    return found


def counted(zone, names, kept):
    """Pieces without common points that tell, for the kept names, how many points of the zone have their numbers.

    names are those of the zone's places behind that of 0; all others than the kept ones are bounded by these.
    """
    todo = [(zone, [None] + list(names), {(): 1})]
    done = []
    while todo:
        piece = todo.pop()
        places = [at for at, name in enumerate(piece[1]) if at > 0 and name not in kept]
        if not places:
            done.append(piece)
            check_many(len(done))
            continue
        place, lows, highs = best_place(piece[0], places)
        todo.extend(summed_over(piece, place, lows, highs))
    return done


class Tally:
    """A told sum that grows: polys by the rows of their systems."""

    def __init__(self):
        self.polys = {}

    def take_in(self, zone, names, poly, times):
        """Adds times a poly on a zone whose places behind that of 0 have these names."""
        key = tuple(named_rows(zone, names))
        self.polys[key] = plus(self.polys.get(key, {}), poly, times)

    def sum_told(self):
        """The told sum."""
        return [(list(rows), ordered(self.polys[rows])) for rows in self.polys if self.polys[rows]]
