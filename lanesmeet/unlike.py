"""Where sums of polys, each on a zone of its own, are not 0.

All zones here have a place for 0 and for each of the same names. A term is a pair (zone, poly).
"""

from lanesmeet.cases import check_many
from lanesmeet.counting import bounds_above, bounds_below, greatest_rows, least_rows
from lanesmeet.fields import narrowed
from lanesmeet.polys import plus, poly_names, put_in, taken_out
from lanesmeet.zones import bare_rows, some_numbers, tightened, tightened_by


def merged(terms):
    """The terms, those of one zone added up, without those whose poly is 0."""
    polys = {}
    zones = {}
    for zone, poly in terms:
        key = tuple([tuple(row) for row in zone])
        zones[key] = zone
        polys[key] = plus(polys.get(key, {}), poly, 1)
    return [(zones[key], polys[key]) for key in polys if polys[key]]


def row_to_part(zone, terms):
    """A row that parts the zone, as not all zones of the terms are whole there; None if all are."""
    counts = {}
    for own, _ in terms:
        for i, j, c in bare_rows(own):
            if zone[i][j] is None or zone[i][j] > c:
                counts[(i, j, c)] = counts.get((i, j, c), 0) + 1
    if not counts:
        return None
    return max(sorted(counts), key=lambda row: counts[row])


def terms_in(terms, i, j, c):
    """The terms on the points at which place i less place j is at most c."""
    cut = [(tightened(own, i, j, c), poly) for own, poly in terms]
    return merged([(own, poly) for own, poly in cut if own is not None])


def degree_of(poly, name):
    """The greatest k of a name in a poly."""
    return max([taken_out(chooser, name)[0] for chooser in poly], default=0)


def starts_of(zone, place):
    """Where the numbers of a place begin: triples (zone, (other place, number), step), step being 1 or -1."""
    lows = bounds_below(zone, place)
    if lows:
        return [(tightened_by(zone, greatest_rows(lows, at)), low, 1) for at, low in enumerate(lows)]
    highs = bounds_above(zone, place)
    if highs:
        return [(tightened_by(zone, least_rows(highs, at)), high, -1) for at, high in enumerate(highs)]
    return [(zone, (0, 0), 1)]


def point_unlike(zone, names, poly):
    """A point of the zone, by names, at which the poly is not 0; None if it is 0 at all points.

    A poly with at most k of a name is 0 for all its numbers if it is so for the first k + 1.
    """
    own = poly_names(poly)
    if not own:
        numbers = some_numbers(zone)
        return {name: numbers[at + 1] for at, name in enumerate(names)} if poly else None
    name = own[0]
    place = names.index(name) + 1
    others = [at for at in range(len(zone)) if at != place]
    for start, (other, first), step in starts_of(zone, place):
        for number in numbers_from(first, step, degree_of(poly, name) + 1):
            part = None if start is None else tightened_by(start, [(place, other, number), (other, place, -number)])
            # Behind the first number that cannot be there are no further ones.
            if part is None:
                break
            end = None if other == 0 else names[other - 1]
            later = [own_name for own_name in names if own_name != name]
            found = point_unlike(narrowed(part, others), later, put_in(poly, name, (end, number)))
            if found is not None:
                found[name] = found.get(end, 0) + number
                return found
    return None


def numbers_from(first, step, count):
    """So many numbers from the first one on."""
    return [first + step * at for at in range(count)]


def first_unlike(zone, names, terms):
    """A point of the zone, by names, at which the terms (rows, poly, times) do not add up to 0, None without any."""
    own = [(tightened_by(zone, rows), plus({}, poly, times)) for rows, poly, times in terms]
    todo = [(zone, merged([(part, poly) for part, poly in own if part is not None]))]
    count = 0
    while todo:
        count = count + 1
        check_many(count)
        here, left = todo.pop()
        if not left:
            continue
        row = row_to_part(here, left)
        if row is None:
            found = point_unlike(here, names, left[0][1])
            if found is not None:
                return found
            continue
        i, j, c = row
        todo.append((tightened(here, i, j, c), terms_in(left, i, j, c)))
        todo.append((tightened(here, j, i, -c - 1), terms_in(left, j, i, -c - 1)))
    return None
