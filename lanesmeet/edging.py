"""Bounds of places: on each axis that a position is not below, and not above, what it may be.

A bound is True or False where the choice tells it alone, otherwise a row. A margin is a pair (low, high):
positions go from low on, up to the size or the count less 1 less high.
"""

from lanesmeet.bodies import is_spot_part
from lanesmeet.cases import check_many, choice_sight, point_cases
from lanesmeet.differences import turned
from lanesmeet.forms import place_of
from lanesmeet.guards import small_number, tied

NO_MARGIN = (0, 0)


def array_of(kernel, point):
    """The array, as the kernel tells it, to which a take, put or add comes."""
    name = place_of(kernel.statements[point])[0]
    return [array for array in kernel.arrays if array[1] == name][0]


def told_bound(row):
    """The bound that a row tells, which may have one name on both sides."""
    return row[2] >= 0 if row[0] == row[1] else row


def far_bounds(form, number, name, sight, margin):
    """The two bounds of a spot, on an axis with the size of this name."""
    low, high = margin
    below = tied(("none", None, 0), form, (number - low) // sight.width)
    above = tied(form, ("tiles", name, 0), (sight.rests[name] - number - 1 - high) // sight.width)
    return told_bound(below), told_bound(above)


def bounds_of(kernel, point, choice, margins):
    """The two bounds for each axis of a choice's place."""
    sort, _, counts = array_of(kernel, point)
    sight = choice_sight(kernel, point, choice)
    found = []
    for part, count, margin in zip(place_of(kernel.statements[point])[1], counts, margins):
        if is_spot_part(part):
            found.append(far_bounds(part[0], small_number(part[1], sight), count, sight, margin))
        else:
            number = small_number(part, sight)
            found.append((number >= 0, number < count))
    return found


def bound_turned(bound):
    """What holds exactly where the bound does not."""
    return not bound if isinstance(bound, bool) else turned(bound)


def rows_told(bounds):
    """The rows of bounds that are all kept; None if one is False."""
    if any([bound is False for bound in bounds]):
        return None
    return [bound for bound in bounds if bound is not True]


def parts_of_place(bounds):
    """The parts (axis, side) of a place that can be, with their rows: within ahead of the axis, beyond there."""
    found = []
    for axis, pair in enumerate(bounds):
        ahead = [bound for earlier in bounds[:axis] for bound in earlier]
        for side in (0, 1):
            rows = rows_told(ahead + [bound_turned(pair[side])])
            if rows is not None:
                found.append(((axis, side), rows))
    return found


def margin_cases(kernel, point, margins):
    """All triples (choice, part, system) of a point: what is beyond the margins, by choices and parts."""
    found = []
    for choice, system in point_cases(kernel, point):
        for part, rows in parts_of_place(bounds_of(kernel, point, choice, margins)):
            found.append((choice, part, system + rows))
        check_many(len(found))
    return found


def no_margins(kernel, point):
    """A margin for each axis of a point's place, that tells just the array's own edges."""
    return [NO_MARGIN for _ in array_of(kernel, point)[2]]


def edge_cases(kernel, point):
    """All edge cases of a point. They are kept with the kernel, so nobody may change them."""
    key = ("edges", point)
    if key not in kernel.held:
        kernel.held[key] = margin_cases(kernel, point, no_margins(kernel, point))
    return kernel.held[key]
