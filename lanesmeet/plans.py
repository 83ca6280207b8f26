"""Plans: how the loops of a nest are laid out over blocks, lanes and turns."""

from lanesmeet.errors import BadBlocks, BadCopies, BadGaps, BadLanes, BadPlan, BadRoles, BadWidth
from lanesmeet.fitting import first_misfit
from lanesmeet.forms import WIDEST, is_word
from lanesmeet.kernels import are_blocks, are_lanes
from lanesmeet.nests import check_nest
from lanesmeet.plain import is_between, is_number, is_rising, is_tuple_of
from lanesmeet.regions import rank


def is_role(thing):
    """Whether thing is a role of a loop."""
    if not isinstance(thing, tuple) or not thing or not isinstance(thing[0], str):
        return False
    if thing[0] == "turn":
        return len(thing) == 1
    return thing[0] in ("block", "lane") and len(thing) == 2 and is_between(thing[1], 0, 1)


def are_roles(thing):
    """Whether thing is a dict from points to roles."""
    if not isinstance(thing, dict):
        return False
    return all([is_number(point) and point >= 0 and is_role(thing[point]) for point in thing])


def is_seat(thing):
    """Whether thing is a seat by its form."""
    if isinstance(thing, tuple) and not thing:
        return True
    if not is_tuple_of(thing, 2) or not is_number(thing[0]) or thing[0] < 0:
        return False
    return thing[1] is None or is_between(thing[1], 0, 1)


def are_gaps(thing):
    """Whether thing is an ascending tuple of different pairs (seat, number)."""
    if not isinstance(thing, tuple):
        return False
    for pair in thing:
        if not is_tuple_of(pair, 2) or not is_seat(pair[0]) or not is_number(pair[1]):
            return False
    return is_rising([rank(pair) for pair in thing])


def are_copies(thing):
    """Whether thing is an ascending tuple of pairs (array, point or None), each array once."""
    if not isinstance(thing, tuple):
        return False
    for pair in thing:
        if not is_tuple_of(pair, 2) or not is_word(pair[0]):
            return False
        if pair[1] is not None and (not is_number(pair[1]) or pair[1] < 0):
            return False
    # Each array stands once, so the arrays alone tell the order.
    return is_rising([array for array, _ in thing])


class Plan:
    """A plan for a nest: its width, lanes and blocks, the roles of loops, the gaps with meetings, the copies."""

    def __init__(self, width, lanes, blocks, roles, gaps, copies):
        if not is_between(width, 1, WIDEST):
            raise BadWidth("a width is a number from 1 to 8")
        if not are_lanes(lanes):
            raise BadLanes("lanes are a pair of numbers from 1 to 8, 16 together at most")
        if not are_blocks(blocks):
            raise BadBlocks("blocks are a pair of numbers from 1 to 9 or of tiles")
        if not are_roles(roles):
            raise BadRoles("roles are a dict from points to roles")
        if not are_gaps(gaps):
            raise BadGaps("gaps are an ascending tuple of pairs of a seat and a number")
        if not are_copies(copies):
            raise BadCopies("copies are an ascending tuple of pairs of an array and a point")
        self.width = width
        self.lanes = lanes
        self.blocks = blocks
        self.roles = {point: roles[point] for point in sorted(roles)}
        self.gaps = gaps
        self.copies = copies

    def __eq__(self, other):
        if not isinstance(other, Plan):
            return False
        return (self.width == other.width and self.lanes == other.lanes and self.blocks == other.blocks
                and self.roles == other.roles and self.gaps == other.gaps and self.copies == other.copies)


def check_plan(nest, plan):
    """Raises BadNest, or BadPlan for what is no plan."""
    check_nest(nest)
    if not isinstance(plan, Plan):
        raise BadPlan("this is no plan")


def unfit(nest, plan):
    """None if the plan fits the nest, otherwise the first word that tells why not."""
    check_plan(nest, plan)
    return first_misfit(nest, plan)
