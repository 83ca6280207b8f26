"""Two deeds of a nest at one cell, of which one crosses the other, told for all sizes."""

from lanesmeet.cases import DEEDS, MARK, check_many, marked_rows, meeting_rows, point_cases, points_of
from lanesmeet.cuts import named_rows
from lanesmeet.fields import headed, places_of, zone_by
from lanesmeet.finding import first_instance, second_instance, sizes_of
from lanesmeet.forms import all_rests, place_of, tiles_name
from lanesmeet.races import all_reached, do_cross
from lanesmeet.regions import Region
from lanesmeet.ways import names_of, weighed
from lanesmeet.wording import one_of
from lanesmeet.zones import is_covered


def spare_rows(nest):
    """How many rows of sizes and promises each case begins with."""
    return len(nest.sizes) + len(nest.promises)


def bare_cases(nest, point):
    """The cases of a point, but for the rows of the one block that there is. They are kept with the nest."""
    key = ("bare cases", point)
    if key not in nest.held:
        spare = spare_rows(nest)
        nest.held[key] = [(choice, rows[:spare] + rows[spare + 4:]) for choice, rows in point_cases(nest, point)]
    return nest.held[key]


def can_cross(nest, one, other):
    """Whether deeds of two points come to one array, so that one may cross the other."""
    arrays = [place_of(nest.statements[point])[0] for point in (one, other)]
    return arrays[0] == arrays[1] and do_cross(nest, one, other)


def crossing_points(nest):
    """All pairs of points, ascending, of deeds that may cross one another."""
    points = points_of(nest, DEEDS)
    return [(one, other) for one in points for other in points if can_cross(nest, one, other)]


def crossings(nest, one, other):
    """Triples (choice, choice, rows), one for each two cases of two points, that tell two deeds at one cell.

    They are kept with the nest, so nobody may change them; what surely has no point is left out.
    """
    key = ("crossings", one, other)
    if key not in nest.held:
        check_many(len(bare_cases(nest, one)) * len(bare_cases(nest, other)))
        found = []
        for at, (first, rows) in enumerate(bare_cases(nest, one)):
            for index, (second, more) in enumerate(bare_cases(nest, other)):
                cell = meeting_rows(all_reached(nest, one)[at], all_reached(nest, other)[index])
                if cell is not None:
                    found.append((first, second, rows + marked_rows(more[spare_rows(nest):]) + cell))
        nest.held[key] = found
    return nest.held[key]


def turn_pair(name):
    """The names of the turns of a loop, for the first and for the second one of two deeds."""
    return "turn " + name, "turn " + name + MARK


def equal_turns(names):
    """The rows that say that the turns of these loops are equal for both deeds."""
    rows = []
    for name in names:
        first, second = turn_pair(name)
        rows.extend([(first, second, 0), (second, first, 0)])
    return rows


def less_turn(name):
    """The row that says that the turn of a loop is less for the first deed."""
    first, second = turn_pair(name)
    return first, second, -1


def common_loops(nest, one, other):
    """The names of the loops around both points, the outermost first."""
    return [loop[1] for loop in nest.loops[one] if loop in nest.loops[other]]


class Search:
    """What is told by pairs of deeds: lists of (one, other, rows), rows being what is asked of two that cross."""

    def __init__(self, nest, asked):
        self.nest = nest
        self.asked = asked

    def check_few(self):
        """Raises TooMany for more than 20000 pairs of cases."""
        count = 0
        for one, other, _ in self.asked:
            count = count + len(bare_cases(self.nest, one)) * len(bare_cases(self.nest, other))
            check_many(count)

    def told_systems(self):
        """All systems that are told, as tuples (point, choice, point, choice, rows)."""
        self.check_few()
        found = []
        for one, other, rows in self.asked:
            pairs = crossings(self.nest, one, other)
            found.extend([(one, first, other, second, base + rows) for first, second, base in pairs])
        return found

    def example(self):
        """Sizes and two deeds that are told, None if there are none."""
        for one, first, other, second, rows in self.told_systems():
            numbers, _ = weighed(rows, {})
            if numbers is not None:
                return (sizes_of(self.nest, first[2], numbers), deed_by(self.nest, one, first, numbers, ""),
                        deed_by(self.nest, other, second, numbers, MARK))
        return None

    def region(self):
        """The region of the sizes at which there are such deeds."""
        lot = TileLot(self.nest)
        for _, _, _, _, rows in self.told_systems():
            lot.take_in(rows)
        return lot.region()


def deed_by(nest, point, choice, numbers, mark):
    """The deed of a point that numbers tell, its names having the mark behind them."""
    blocks = {f"block {axis}" + mark: 0 for axis in (0, 1)}
    blocks.update({name: numbers[name] for name in numbers if name is not None})
    return second_instance(nest, point, choice, blocks) if mark else first_instance(nest, point, choice, blocks)


class TileLot:
    """The zones of the tiles of a nest that systems leave, which all have the rests 0."""

    def __init__(self, nest):
        self.nest = nest
        self.names = [tiles_name(size[0]) for size in nest.sizes]
        self.zones = []

    def take_in(self, rows):
        """Adds the tiles for which some numbers keep the rows."""
        others = [name for name in names_of(rows) if name not in self.names]
        zone = zone_by(rows, places_of(self.names + others))
        if zone is not None:
            own = headed(zone, len(self.names) + 1)
            if not is_covered(own, self.zones):
                self.zones.append(own)

    def region(self):
        """The region of all that was taken in."""
        saying = one_of([named_rows(zone, self.names) for zone in self.zones])
        told = {rests: saying for rests in all_rests(self.nest.sizes)}
        return Region(self.nest.sizes, self.nest.promises, told)
