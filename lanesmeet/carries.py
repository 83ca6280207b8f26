"""Carries: what goes from deed to deed of a nest, told by the loop whose turn is greater."""

from lanesmeet.cases import DEEDS, is_point_of, points_of
from lanesmeet.crossings import Search, can_cross, common_loops, crossing_points, equal_turns, less_turn
from lanesmeet.errors import BadCarry
from lanesmeet.nests import check_nest
from lanesmeet.plain import is_number_tuple


def level_rows(nest, carry):
    """The rows that tell of two deeds that they are those of a carry."""
    one, other, level = carry
    names = common_loops(nest, one, other)
    rows = equal_turns(names[:level])
    return rows + [less_turn(names[level])] if level < len(names) else rows


def levels_for(nest, one, other):
    """The levels of the carries of two points, ascending."""
    count = len(common_loops(nest, one, other))
    return list(range(count + 1 if one < other else count))


def possible_carries(nest):
    """All carries of a nest, ascending, whether they come or not."""
    return [(one, other, level) for one, other in crossing_points(nest) for level in levels_for(nest, one, other)]


def carry_search(nest, carry):
    """The search for the deeds for which a carry comes."""
    return Search(nest, [(carry[0], carry[1], level_rows(nest, carry))])


def all_carries(nest):
    """The carries that come at some sizes, ascending. They are kept with the nest."""
    if "carries" not in nest.held:
        possible = possible_carries(nest)
        Search(nest, [(one, other, []) for one, other, _ in possible]).check_few()
        nest.held["carries"] = tuple([carry for carry in possible if carry_search(nest, carry).example() is not None])
    return nest.held["carries"]


def carries(nest):
    """The carries that come at some sizes, ascending."""
    check_nest(nest)
    return all_carries(nest)


def check_carry(nest, carry):
    """Raises BadNest, or BadCarry for what is no carry of the nest."""
    check_nest(nest)
    if not is_number_tuple(carry, 3) or not is_point_of(nest, carry[0], DEEDS):
        raise BadCarry("this is no triple of points of deeds and a level")
    one, other, level = carry
    if not is_point_of(nest, other, DEEDS) or not can_cross(nest, one, other):
        raise BadCarry("deeds of these points never cross")
    if level not in levels_for(nest, one, other):
        raise BadCarry("there is no such level")


def carry_at(nest, carry):
    """Sizes and two deeds for which the carry comes, None if it never does."""
    check_carry(nest, carry)
    return carry_search(nest, carry).example()


def carry_region(nest, carry):
    """The region of the sizes at which the carry comes."""
    check_carry(nest, carry)
    return carry_search(nest, carry).region()


def carries_within(nest, point):
    """The carries that come with both points in a loop, and as level the number of loops around it."""
    level = len(nest.loops[point])
    found = []
    for one, other, own in all_carries(nest):
        if own == level and (point, None) in nest.arounds[one] and (point, None) in nest.arounds[other]:
            found.append((one, other, own))
    return found


def free_loops(nest):
    """The points of the loops whose turns carry nothing from one to another."""
    check_nest(nest)
    return tuple([point for point in points_of(nest, ("long",)) if not carries_within(nest, point)])
