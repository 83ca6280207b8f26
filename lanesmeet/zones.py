"""Zones: all points of a system, told by the tightest row for each two places.

A zone is a list of lists of numbers or None: zone[i][j] is the greatest difference of what stands
at place i less what stands at place j, None if there is none. The place 0 stands for the number 0.
Zones are never empty and never changed: each step makes a new one, which may share lists with the old one.
"""


def whole(count):
    """The zone of all points with so many places."""
    return [[0 if i == j else None for j in range(count)] for i in range(count)]


def tightened(zone, i, j, c):
    """The points of the zone at which place i less place j is at most c, None if there are none."""
    back = zone[j][i]
    if back is not None and back + c < 0:
        return None
    old = zone[i][j]
    if old is not None and old <= c:
        return zone
    return [row if row[i] is None else shortened(row, row[i] + c, zone[j]) for row in zone]


def shortened(row, base, ahead):
    """A row of a zone, each bound replaced by base and what is ahead where that is less."""
    return [bound if step is None or bound is not None and bound <= base + step else base + step
            for bound, step in zip(row, ahead)]


def tightened_by(zone, rows):
    """The points of the zone that keep all rows (place, place, number), None if there are none."""
    for i, j, c in rows:
        zone = tightened(zone, i, j, c)
        if zone is None:
            return None
    return zone


def loosed(zone, places):
    """The points that come of the zone if any numbers may stand at the places."""
    free = [at in places for at in range(len(zone))]
    return [[bound if i == j or not (free[i] or free[j]) else None for j, bound in enumerate(row)]
            for i, row in enumerate(zone)]


def lies_within(zone, other):
    """Whether all points of the zone are points of the other one."""
    for row, bounds in zip(zone, other):
        for worth, bound in zip(row, bounds):
            if bound is not None and (worth is None or worth > bound):
                return False
    return True


def is_covered(zone, others):
    """Whether the zone lies within one of the others."""
    for other in others:
        if lies_within(zone, other):
            return True
    return False


def thinned(zones):
    """The zones but for those that lie within another one."""
    if len(zones) < 2:
        return zones
    found = []
    for zone in zones:
        if not is_covered(zone, found):
            found = [other for other in found if not lies_within(other, zone)] + [zone]
    return found


def leaders_of(zone):
    """For each place the least one from which it has a fixed difference."""
    found = []
    for i in range(len(zone)):
        leader = i
        for j in range(i):
            if zone[i][j] is not None and zone[j][i] is not None and zone[i][j] + zone[j][i] == 0:
                leader = j
                break
        found.append(leader)
    return found


def bare_rows(zone):
    """Rows (place, place, number) that tell the zone, none of which follows from the others."""
    leaders = leaders_of(zone)
    heads = [i for i in range(len(zone)) if leaders[i] == i]
    found = []
    for head in heads:
        ring = [i for i in range(len(zone)) if leaders[i] == head]
        if len(ring) > 1:
            found.extend([(i, j, zone[i][j]) for i, j in zip(ring, ring[1:] + ring[:1])])
    for i in heads:
        for j in heads:
            if i != j and zone[i][j] is not None and not is_implied(zone, i, j, heads):
                found.append((i, j, zone[i][j]))
    return found


def is_implied(zone, i, j, heads):
    """Whether the bound of i less j comes of two other ones, by way of a third of the heads."""
    bound = zone[i][j]
    for k in heads:
        if k != i and k != j and zone[i][k] is not None and zone[k][j] is not None:
            if zone[i][k] + zone[k][j] <= bound:
                return True
    return False


def pieces_outside(zone, rows):
    """Zones without common points that have together all points of the zone that break one of the rows."""
    if tightened_by(zone, rows) is None:
        return [zone]
    found = []
    for i, j, c in rows:
        piece = tightened(zone, j, i, -c - 1)
        if piece is not None:
            found.append(piece)
        zone = tightened(zone, i, j, c)
    return found


def outside(zones, others):
    """Zones with just the points of the zones that are in none of the others."""
    rest = zones
    for other in others:
        rows = bare_rows(other)
        rest = [piece for zone in rest for piece in pieces_outside(zone, rows)]
    return rest


def common(zones, others):
    """Zones with just the points that are in one of the zones and in one of the others."""
    found = [tightened_by(zone, bare_rows(other)) for zone in zones for other in others]
    return thinned([zone for zone in found if zone is not None])


def has_numbers(zone, numbers):
    """Whether the numbers, that of place 0 being 0, are a point of the zone."""
    for number, row in zip(numbers, zone):
        for other, bound in zip(numbers, row):
            if bound is not None and number - other > bound:
                return False
    return True


def some_numbers(zone):
    """Numbers for all places that are a point of the zone."""
    pinned = zone
    for place in range(1, len(zone)):
        row = pinned[place]
        # A bound from above, else one from below, else 0: each bound of a zone is reached by a point.
        number = row[0] if row[0] is not None else max(0, -(pinned[0][place] or 0))
        pinned = tightened_by(pinned, [(place, 0, number), (0, place, -number)])
    return [row[0] for row in pinned]
