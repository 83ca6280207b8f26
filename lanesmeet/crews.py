"""Crews: the lanes of a block, numbered and cut into runs of one width."""

from lanesmeet.cases import lanes_of
from lanesmeet.errors import BadWidth
from lanesmeet.plain import is_between


def is_width(kernel, thing):
    """Whether thing is a width of crews: a number that divides how many lanes a block has."""
    count = len(lanes_of(kernel))
    return is_between(thing, 1, count) and count % thing == 0


def check_width(kernel, width):
    """Raises BadWidth for what is no width of crews of the kernel."""
    if not is_width(kernel, width):
        raise BadWidth("this is no number that divides how many lanes there are")


def all_widths(kernel):
    """All widths of crews of the kernel, ascending."""
    return [width for width in range(1, len(lanes_of(kernel)) + 1) if is_width(kernel, width)]


def crew_of(kernel, width, lane):
    """The number of the crew of a lane."""
    return (lane[0] * kernel.lanes[1] + lane[1]) // width


def crews_of(kernel, width):
    """The lanes of each crew, in order."""
    lanes = lanes_of(kernel)
    return [lanes[first:first + width] for first in range(0, len(lanes), width)]
