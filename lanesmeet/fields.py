"""Fields: zones whose places stand for names, those of tiles ahead of all others."""

from lanesmeet.zones import tightened_by, whole


def places_of(names):
    """The places of None and of the names, in order."""
    places = {None: 0}
    for name in names:
        places[name] = len(places)
    return places


def zone_by(rows, places):
    """The zone of all numbers for the places that keep the rows, None if there are none."""
    return tightened_by(whole(len(places)), [(places[a], places[b], c) for a, b, c in rows])


def narrowed(zone, chosen):
    """The zone of what stands at the chosen places; the first of them is that of 0."""
    return [[zone[i][j] for j in chosen] for i in chosen]


def headed(zone, count):
    """The zone of what stands at the first count places, that of 0 among them."""
    return [row[:count] for row in zone[:count]]


def widened(zone, count):
    """The zone with so many further places, at which any numbers may stand."""
    wide = [row + [None] * count for row in zone]
    return wide + whole(len(zone) + count)[len(zone):]


def viewed(zone, spots):
    """The zone of what comes of the zone at the spots, pairs (place, number): the number at the place and that."""
    return [[None if zone[i][j] is None else zone[i][j] + c - d for j, d in spots] for i, c in spots]


def least_numbers(zone, names):
    """The least number of each name in the zone, by names; all are bounded from below."""
    return {name: -zone[0][at + 1] for at, name in enumerate(names)}
