"""Ways along rows: least sums, first ways, first rings.

Rows are triples (a, b, c), read as steps from a to b that cost c. The spots are the names and None.
"""


def names_of(rows):
    """The names in the rows, ascending."""
    found = {}
    for a, b, _ in rows:
        found[a] = True
        found[b] = True
    return sorted([name for name in found if name is not None])


def spots_of(rows):
    """None, and behind it the names in the rows, ascending."""
    return [None] + names_of(rows)


def weighed(rows, start):
    """A pair: numbers for None and all names that keep the rows, or None; the indexes of a ring, or None.

    Numbers in start are where the search begins: near to an answer it ends sooner.
    """
    values = {None: 0}
    for a, b, _ in rows:
        values[a] = start.get(a, 0)
        values[b] = start.get(b, 0)
    came = {}
    last = None
    rounds = len(values)
    for _ in range(rounds):
        moved = False
        for at, (a, b, c) in enumerate(rows):
            low = values[a] - c
            if low > values[b]:
                values[b] = low
                came[b] = at
                last = b
                moved = True
        if not moved:
            base = values[None]
            return {spot: values[spot] - base for spot in values}, None
    return None, ring_through(rows, came, last, rounds)


def ring_through(rows, came, spot, count):
    """The ring to which one comes from spot, going back count steps along the rows in came."""
    # So many steps back one surely stands on the ring, not on a way that leads away from it.
    for _ in range(count):
        spot = rows[came[spot]][0]
    back = [came[spot]]
    here = rows[came[spot]][0]
    while here != spot:
        back.append(came[here])
        here = rows[came[here]][0]
    return back[::-1]


def one_row_more(rows, old):
    """From the least sums of ways with k rows, spot by spot and end by end, those with k + 1 rows."""
    new = {spot: {} for spot in old}
    for a, b, c in rows:
        sums = new[a]
        for end, total in old[b].items():
            if end not in sums or c + total < sums[end]:
                sums[end] = c + total
    return new


def ring_tables(rows):
    """The least sums of ways with 0, 1, .. rows, up to the first number with which there is a ring."""
    tables = [{spot: {spot: 0} for spot in spots_of(rows)}]
    while True:
        table = one_row_more(rows, tables[-1])
        tables.append(table)
        for spot in table:
            if table[spot].get(spot, 0) < 0:
                return tables


def first_ring(rows):
    """The indexes of the first of all rings, None if there is none."""
    if weighed(rows, {})[1] is None:
        return None
    tables = ring_tables(rows)
    found = []
    total = 0
    start = None
    here = None
    for left in range(len(tables) - 2, -1, -1):
        for at, (a, b, c) in enumerate(rows):
            if found and a != here:
                continue
            end = start if found else a
            rest = tables[left][b].get(end)
            if rest is not None and total + c + rest < 0:
                start = end
                here = b
                total = total + c
                found.append(at)
                break
    return found


def least_sums(rows, start):
    """The least sums of ways from start to each spot; the rows have no ring."""
    sums = {start: 0}
    moved = True
    while moved:
        moved = False
        for a, b, c in rows:
            if a in sums:
                total = sums[a] + c
                if b not in sums or total < sums[b]:
                    sums[b] = total
                    moved = True
    return sums


def least_ways(rows, start):
    """A pair: the least sums from start, and the first of the ways that have them; the rows have no ring."""
    sums = least_sums(rows, start)
    tight = {}
    for at, (a, b, c) in enumerate(rows):
        if a in sums and sums[a] + c == sums[b]:
            tight.setdefault(a, []).append((at, b))
    ways = {start: []}
    spots = [start]
    # Spots of one round stand in the order of their ways, so the first way found to a spot is its first one.
    while spots:
        later = []
        for spot in spots:
            for at, end in tight.get(spot, []):
                if end not in ways:
                    ways[end] = ways[spot] + [at]
                    later.append(end)
        spots = later
    return sums, ways


def first_way(rows, a, b, most):
    """The first of the ways from a to b with a sum of at most most, None if there is none; there is no ring."""
    tables = [{b: 0}]
    # Without rings a way that comes to a spot twice is never needed.
    for _ in range(len(spots_of(rows))):
        if tables[-1].get(a, most + 1) <= most:
            return way_by(rows, a, most, tables)
        old = tables[-1]
        new = {}
        for first, second, c in rows:
            if second in old and (first not in new or c + old[second] < new[first]):
                new[first] = c + old[second]
        tables.append(new)
    return None


def way_by(rows, a, most, tables):
    """The first way from a with one row less than there are tables, and a sum of at most most."""
    way = []
    total = 0
    here = a
    for left in range(len(tables) - 2, -1, -1):
        for at, (first, second, c) in enumerate(rows):
            if first == here and total + c + tables[left].get(second, most - total - c + 1) <= most:
                way.append(at)
                total = total + c
                here = second
                break
    return way
