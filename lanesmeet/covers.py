"""Covers: whether each cell of a window is done by just one of the chosen instances, at all sizes."""

from lanesmeet.cases import DEEDS, MARK, check_many, is_point_of, long_loops, marked_rows, meeting_rows, point_cases
from lanesmeet.cases import reached, size_rows
from lanesmeet.cuts import named_rows
from lanesmeet.differences import lowest
from lanesmeet.edging import array_of, margin_cases
from lanesmeet.errors import BadPoints, BadWindow
from lanesmeet.fields import places_of, zone_by
from lanesmeet.finding import Scales, first_instance, second_instance, sizes_of
from lanesmeet.forms import all_rests
from lanesmeet.kernels import check_kernel
from lanesmeet.papers import is_tree_for
from lanesmeet.plain import has_just_keys, is_between, is_rising, is_tuple_of
from lanesmeet.prover import tree_for
from lanesmeet.rings import are_rings, rings_of
from lanesmeet.sayings import first_point
from lanesmeet.standing import add_zone, cell_name, cell_names, cell_view, tiles_of, told_cases
from lanesmeet.wording import one_of, said
from lanesmeet.zones import thinned

WIDEST_EDGE = 64


def check_points(kernel, points):
    """Raises BadKernel, or BadPoints for what are no chosen points."""
    check_kernel(kernel)
    if not isinstance(points, tuple) or not points:
        raise BadPoints("chosen points are a tuple of one or more")
    if not all([is_point_of(kernel, point, DEEDS) for point in points]) or not is_rising(points):
        raise BadPoints("chosen points are ascending points of takes, puts or adds")
    word = kernel.statements[points[0]][0]
    array = array_of(kernel, points[0])
    if array[0] != "far":
        raise BadPoints("the array is not far")
    for point in points:
        if kernel.statements[point][0] != word or array_of(kernel, point) != array:
            raise BadPoints("chosen points are all of one word, at one far array")


def check_window(kernel, points, window):
    """Raises BadKernel, BadPoints, or BadWindow for what is no window of the array."""
    check_points(kernel, points)
    if not is_tuple_of(window, len(array_of(kernel, points[0])[2])):
        raise BadWindow("a window is a tuple with a pair for each coordinate")
    for pair in window:
        if not is_tuple_of(pair, 2) or not all([is_between(number, 0, WIDEST_EDGE) for number in pair]):
            raise BadWindow("a window has pairs of numbers from 0 to 64")


def stray_cases(kernel, points, window):
    """The stray cases, as tuples (point, choice, part, system); TooMany for more than 20000 together."""
    found = []
    for point in points:
        found.extend([(point,) + case for case in margin_cases(kernel, point, window)])
        check_many(len(found))
    return found


def first_stray(kernel, cases):
    """The sizes and the instance of the first stray case that has a point, None without one."""
    scales = Scales()
    for point, choice, _, system in cases:
        if scales.has_point(system):
            numbers = lowest(system)
            return sizes_of(kernel, choice[2], numbers), first_instance(kernel, point, choice, numbers)
    return None


def stray(kernel, points, window):
    """Sizes and a chosen instance whose cell is not in the window, None if there is none."""
    check_window(kernel, points, window)
    return first_stray(kernel, stray_cases(kernel, points, window))


def how_rows(names, at):
    """The rows that say that the names ahead of one are equal for both instances, and that one is less."""
    rows = []
    for name in names[:at]:
        rows.append((name, name + MARK, 0))
        rows.append((name + MARK, name, 0))
    return rows + [(names[at], names[at] + MARK, -1)]


def all_hows(kernel, point):
    """The rows of all ways in which two instances of one choice can be unlike, the first one being less."""
    names = ["block 0", "block 1"] + ["turn " + name for name in long_loops(kernel, point)]
    return [how_rows(names, at) for at in range(len(names))]


def cells_of(kernel, point):
    """All cases of a point as triples (choice, cell as by reached, system)."""
    return [(choice, reached(kernel, point, choice), system) for choice, system in point_cases(kernel, point)]


def by_offsets(cells):
    """The triples of cells_of by their rests and offsets, the marked system in the place of the system."""
    found = {}
    for choice, cell, system in cells:
        found.setdefault((choice[2], cell[1]), []).append((choice, cell, marked_rows(system)))
    return found


def double_cases(kernel, points):
    """The double cases, as tuples (point, other point, choice, other choice, system); TooMany for more than 20000."""
    mates = {point: by_offsets(cells_of(kernel, point)) for point in points}
    found = []
    for point in points:
        hows = all_hows(kernel, point)
        for later in [other for other in points if other >= point]:
            for choice, cell, system in cells_of(kernel, point):
                for mate in mates[later].get((choice[2], cell[1]), []):
                    found.extend(doubles_of((point, later), (choice, cell, system), mate, hows))
                check_many(len(found))
    return found


def doubles_of(points, one, mate, hows):
    """The double cases of two triples of cells_of, the second one with its marked system."""
    point, later = points
    choice, cell, system = one
    other, second, marked = mate
    rows = meeting_rows(cell, second)
    if rows is None or point == later and other < choice:
        return []
    base = system + marked + rows
    if point == later and choice == other:
        return [(point, later, choice, other, base + more) for more in hows]
    return [(point, later, choice, other, base)]


def first_double(kernel, cases):
    """The sizes and the two instances of the first double case that has a point, None without one."""
    scales = Scales()
    for point, later, choice, other, system in cases:
        if scales.has_point(system):
            numbers = lowest(system)
            one, two = sorted([first_instance(kernel, point, choice, numbers),
                               second_instance(kernel, later, other, numbers)])
            return sizes_of(kernel, choice[2], numbers), one, two
    return None


def double(kernel, points):
    """Sizes and two chosen instances at one cell, None if there are none."""
    check_points(kernel, points)
    return first_double(kernel, double_cases(kernel, points))


class Missing:
    """What is missing with some rests and offsets: the rows of a window's cells, and the systems of what is done."""

    def __init__(self, rows, systems):
        self.rows = rows
        self.systems = systems

    def outline(self):
        """What stands for its saying."""
        return tuple(self.rows), tuple([tuple(system) for system in self.systems])

    def saying(self):
        """The saying that holds where the window has a cell that is not done."""
        parts = [said(row) for row in self.rows]
        if self.systems:
            parts.append(("not", one_of(self.systems)))
        return "and", tuple(parts)


def window_rows(kernel, sizes, key, window):
    """The rows of all cells of a window, of an array with these sizes, that have the rests and offsets of a key."""
    rests = {size[0]: rest for size, rest in zip(kernel.sizes, key[0])}
    rows = size_rows(kernel)
    for axis, (low, high) in enumerate(window):
        offset = key[1][axis]
        name = sizes[axis]
        rows.append((None, cell_name(axis), (offset - low) // kernel.width))
        rows.append((cell_name(axis), "tiles " + name, (rests[name] - 1 - high - offset) // kernel.width))
    return rows


class Doings:
    """The cells that chosen instances do: zones of tiles and cells, by rests and offsets."""

    def __init__(self, kernel, points):
        self.kernel = kernel
        self.sizes = array_of(kernel, points[0])[2]
        self.names = tiles_of(kernel) + cell_names(len(self.sizes))
        self.zones = {}
        for point, choice, zone in told_cases(kernel, points):
            _, offsets, tiles = reached(kernel, point, choice)
            zones = self.zones.setdefault((choice[2], offsets), [])
            add_zone(zones, cell_view(kernel, point, zone, tiles, []))

    def missing(self, key, window):
        """What is missing of a window with the rests and offsets of a key."""
        rows = window_rows(self.kernel, self.sizes, key, window)
        places = places_of(self.names)
        base = zone_by(rows, places)
        if base is None:
            return Missing(rows, [])
        systems = []
        for zone in thinned(self.zones.get(key, [])):
            system = named_rows(zone, self.names)
            # What all cells of the window keep need not be asked for.
            systems.append([(a, b, c) for a, b, c in system if not is_bound(base, places[a], places[b], c)])
        return Missing(rows, systems)


def is_bound(zone, i, j, c):
    """Whether place i less place j is at most c at all points of the zone."""
    return zone[i][j] is not None and zone[i][j] <= c


def all_offsets(kernel, count):
    """All tuples of so many offsets, ascending."""
    found = [()]
    for _ in range(count):
        found = [before + (offset,) for before in found for offset in range(kernel.width)]
    return found


def all_missing(kernel, points, window):
    """What is missing, by rests and offsets, ascending."""
    doings = Doings(kernel, points)
    keys = [(rests, offsets) for rests in all_rests(kernel.sizes) for offsets in all_offsets(kernel, len(window))]
    return {key: doings.missing(key, window) for key in keys}


def missing_sayings(kernel, points, window):
    """For all rests and offsets the saying that a cell of the window is done by no chosen instance."""
    check_window(kernel, points, window)
    lost = all_missing(kernel, points, window)
    return {key: lost[key].saying() for key in lost}


def first_missing(kernel, lost):
    """The sizes and the positions of the first cell of what is missing, None if there is none."""
    known = {}
    for key in lost:
        own = lost[key].outline()
        if own not in known:
            known[own] = first_point(lost[key].saying())
        if known[own] is not None:
            rests, offsets = key
            positions = [(known[own][cell_name(axis)], offset) for axis, offset in enumerate(offsets)]
            return sizes_of(kernel, rests, known[own]), tuple(positions)
    return None


def missing(kernel, points, window):
    """Sizes and the positions of a cell of the window that no chosen instance does, None if there is none."""
    check_window(kernel, points, window)
    return first_missing(kernel, all_missing(kernel, points, window))


def covered(kernel, points, window):
    """What is wrong with a cover, as stray, double or missing tell, behind their word; ("once",) if nothing is."""
    found = stray(kernel, points, window)
    if found is not None:
        return ("stray",) + found
    found = double(kernel, points)
    if found is not None:
        return ("double",) + found
    found = missing(kernel, points, window)
    return ("once",) if found is None else ("missing",) + found


def cover_papers(kernel, points, window):
    """The first rings of all stray and all double cases, and trees that nothing is missing; None if something is."""
    if covered(kernel, points, window) != ("once",):
        return None
    lost = all_missing(kernel, points, window)
    known = {}
    trees = {}
    for key in lost:
        own = lost[key].outline()
        if own not in known:
            known[own] = tree_for([(lost[key].saying(), True)])
        trees[key] = known[own]
    strays, doubles = cover_systems(kernel, points, window)
    return rings_of(strays), rings_of(doubles), trees


def cover_systems(kernel, points, window):
    """The systems of all stray and of all double cases."""
    strays = [case[3] for case in stray_cases(kernel, points, window)]
    return strays, [case[4] for case in double_cases(kernel, points)]


def are_cover_papers(kernel, points, window, thing):
    """Whether thing shows, as cover_papers does, that the window is covered just once."""
    check_window(kernel, points, window)
    strays, doubles = cover_systems(kernel, points, window)
    if not is_tuple_of(thing, 3) or not are_rings(strays, thing[0]) or not are_rings(doubles, thing[1]):
        return False
    lost = all_missing(kernel, points, window)
    if not has_just_keys(thing[2], list(lost)):
        return False
    return all([is_tree_for([(lost[key].saying(), True)], thing[2][key]) for key in lost])
