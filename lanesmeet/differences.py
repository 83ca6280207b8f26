"""Systems of rows: each says that one number less another one is at most a third."""

from lanesmeet.errors import BadName, BadNames, BadRow, BadSystem, BadSystems, NotBounded, Ringed, TooMany
from lanesmeet.plain import has_just_keys, is_between, is_listing, is_number, is_rising, is_tuple_of
from lanesmeet.ways import first_ring, first_way, least_sums, least_ways, names_of, spots_of

MOST_ROWS = 400
CLASH = "!"


def is_row_name(thing):
    """Whether thing can stand as a name in a row."""
    return isinstance(thing, str) and 1 <= len(thing) <= 20


def is_row(thing):
    """Whether thing is a row."""
    if not is_tuple_of(thing, 3):
        return False
    a, b, c = thing
    for name in (a, b):
        if name is not None and not is_row_name(name):
            return False
    return a != b and is_number(c)


def is_system(thing):
    """Whether thing is a system."""
    if not is_listing(thing) or len(thing) > MOST_ROWS:
        return False
    return all([is_row(row) for row in thing])


def check_system(system):
    """Raises BadSystem for what is no system."""
    if not is_system(system):
        raise BadSystem("this is no list of at most 400 rows")


def is_point(system, thing):
    """Whether thing is a point of the system."""
    check_system(system)
    return is_point_of(system, thing)


def is_point_of(system, thing):
    """Whether thing is a point of what is surely a system."""
    if not has_just_keys(thing, names_of(system)):
        return False
    for name in thing:
        if not is_number(thing[name]):
            return False
    for row in system:
        if not is_kept(row, thing):
            return False
    return True


def is_kept(row, point):
    """Whether the numbers of the point keep the row."""
    a, b, c = row
    left = 0 if a is None else point[a]
    right = 0 if b is None else point[b]
    return left - right <= c


def way_sum(system, thing, start, end):
    """The sum of thing if it is a way from start to end, otherwise None."""
    if not is_listing(thing):
        return None
    here = start
    total = 0
    for at in thing:
        if not is_between(at, 0, len(system) - 1) or system[at][0] != here:
            return None
        here = system[at][1]
        total = total + system[at][2]
    return total if here == end else None


def is_ring(system, thing):
    """Whether thing is a ring of the system."""
    check_system(system)
    return is_ring_of(system, thing)


def is_ring_of(system, thing):
    """Whether thing is a ring of what is surely a system."""
    if not is_listing(thing) or not thing or not is_between(thing[0], 0, len(system) - 1):
        return False
    start = system[thing[0]][0]
    total = way_sum(system, thing, start, start)
    return total is not None and total < 0


def ring(system):
    """The first of all rings, None if there is none."""
    check_system(system)
    return first_ring(system)


def check_ringless(system):
    """Raises BadSystem, or Ringed with the first ring if there is one."""
    check_system(system)
    found = first_ring(system)
    if found is not None:
        raise Ringed(found)


def lowest(system):
    """The least point of a system without rings, or NotBounded."""
    sums = least_sums(system, None)
    names = names_of(system)
    for name in names:
        if name not in sums:
            raise NotBounded(name)
    return {name: -sums[name] for name in names}


def least_point(system):
    """The point in which each name is as small as in any point, None if there is a ring."""
    check_system(system)
    if first_ring(system) is not None:
        return None
    return lowest(system)


def chains(system):
    """The first ways from None to the names that tell the least point."""
    check_ringless(system)
    point = lowest(system)
    _, ways = least_ways(system, None)
    return {name: ways[name] for name in point}


def is_chains(system, point, thing):
    """Whether point is a point and thing tells by ways that it is the least one."""
    check_system(system)
    if not is_point_of(system, point) or not has_just_keys(thing, names_of(system)):
        return False
    for name in thing:
        if way_sum(system, thing[name], None, name) != -point[name]:
            return False
    return True


def check_spot(system, spot):
    """Raises BadName for what is neither None nor a name of the system."""
    if spot is not None and (not isinstance(spot, str) or spot not in names_of(system)):
        raise BadName("this is neither None nor a name of the system")


def most(system, a, b):
    """The greatest number of a - b over the points, with the first way that tells it; None if there is none."""
    check_system(system)
    check_spot(system, a)
    check_spot(system, b)
    check_ringless(system)
    if a == b:
        return 0, []
    sums, ways = least_ways(system, a)
    if b not in sums:
        return None
    return sums[b], ways[b]


def closed(system):
    """For all pairs of names and None that are bounded, the greatest number of their difference."""
    check_ringless(system)
    spots = spots_of(system)
    found = {}
    for a in spots:
        sums = least_sums(system, a)
        for b in spots:
            if a != b and b in sums:
                found[(a, b)] = sums[b]
    return found


def turned(row):
    """The row that holds exactly where the row does not."""
    a, b, c = row
    return b, a, -c - 1


def check_own_row(system, row):
    """Raises BadRow for what is no row of names of the system and None."""
    if not is_row(row):
        raise BadRow("this is no row")
    names = names_of(system)
    for name in row[:2]:
        if name is not None and name not in names:
            raise BadRow("the row has a name that the system does not have")


def follows(system, row):
    """What shows whether the row follows: a ring, a way, or a point that breaks it."""
    check_system(system)
    check_own_row(system, row)
    found = first_ring(system)
    if found is not None:
        return "ring", found
    way = first_way(system, row[0], row[1], row[2])
    if way is not None:
        return "way", way
    return "point", lowest(list(system) + [turned(row)])


def is_follows(system, row, thing):
    """Whether thing shows, as follows does, whether the row follows."""
    check_system(system)
    check_own_row(system, row)
    if not is_tuple_of(thing, 2):
        return False
    word, shown = thing
    if word == "ring":
        return is_ring_of(system, shown)
    if word == "way":
        total = way_sum(system, shown, row[0], row[1])
        return total is not None and total <= row[2]
    if word == "point":
        return is_point_of(system, shown) and not is_kept(row, shown)
    return False


def needless(system):
    """The indexes of the rows each of which follows from all others."""
    check_ringless(system)
    rows = list(system)
    found = []
    for at, (a, b, c) in enumerate(rows):
        sums = least_sums(rows[:at] + rows[at + 1:], a)
        if b in sums and sums[b] <= c:
            found.append(at)
    return tuple(found)


def tightest(rows):
    """Of rows with equal names only the one with the least number, the first of equal ones."""
    best = {}
    for at, (a, b, c) in enumerate(rows):
        if (a, b) not in best or c < rows[best[(a, b)]][2]:
            best[(a, b)] = at
    return [rows[at] for at in sorted(list(best.values()))]


def cut_out(rows, name):
    """A pair: the rows without the name, and whether two of its rows cannot both be kept."""
    rest = [row for row in rows if row[0] != name and row[1] != name]
    clash = False
    for a, b, c in rows:
        if b != name:
            continue
        for other, end, d in rows:
            if other != name:
                continue
            if a == end:
                clash = clash or c + d < 0
            else:
                rest.append((a, end, c + d))
    return tightest(rest), clash


def with_clash(rows, clash):
    """The rows, and behind them two that no number keeps if there is a clash; TooMany for too long a list."""
    if clash:
        rows = rows + [(None, CLASH, -1), (CLASH, None, 0)]
    if len(rows) > MOST_ROWS:
        raise TooMany(MOST_ROWS)
    return rows


def without(system, name):
    """The system that is left if the name is cut out."""
    check_system(system)
    names = names_of(system)
    if not isinstance(name, str) or name not in names or CLASH in names:
        raise BadName("this is no name of the system that can be cut out")
    rows, clash = cut_out(list(system), name)
    return with_clash(rows, clash)


def kept(system, names):
    """The system that is left if all other names are cut out, one behind the other."""
    check_system(system)
    own = names_of(system)
    if CLASH in own:
        raise BadName("a name of the system is that of a clash")
    if not isinstance(names, tuple) or not all([isinstance(name, str) and name in own for name in names]):
        raise BadNames("this is no tuple of names of the system")
    if not is_rising(names):
        raise BadNames("these names are not ascending")
    rows = list(system)
    clash = False
    for name in own:
        # A name may be gone already, with the rows that it had.
        if name not in names and name in names_of(rows):
            rows, more = cut_out(rows, name)
            clash = clash or more
            with_clash(rows, clash)
    return with_clash(rows, clash)


def joined(systems):
    """The rows of all systems, one behind the other."""
    if not is_listing(systems):
        raise BadSystems(None)
    for at, system in enumerate(systems):
        if not is_system(system):
            raise BadSystems(at)
    rows = [row for system in systems for row in system]
    if len(rows) > MOST_ROWS:
        raise TooMany(MOST_ROWS)
    return rows
