"""Steps, and instances that are side by side."""

from lanesmeet.cases import STANDS, check_at, step_key
from lanesmeet.errors import BadInstance, BadPair, BadStep, OtherBlocks, SameLane
from lanesmeet.kernels import check_kernel
from lanesmeet.meaning import is_there_as, lane_list
from lanesmeet.pairs import beside_saying, is_pair_case
from lanesmeet.plain import is_between, is_number_tuple, is_tuple_of


def check_step(kernel, thing):
    """Raises BadStep for what is no step."""
    if not is_tuple_of(thing, 2) or not is_between(thing[0], 0, len(kernel.statements) - 1):
        raise BadStep("this is no pair of a point and numbers")
    if not is_number_tuple(thing[1], len(kernel.loops[thing[0]])):
        raise BadStep("these are not as many numbers as loops")


def compared(kernel, one, other):
    """-1 if the one step is ahead of the other, 0 if they are one step, otherwise 1."""
    check_kernel(kernel)
    check_step(kernel, one)
    check_step(kernel, other)
    first = step_key(kernel, one[0], one[1])
    second = step_key(kernel, other[0], other[1])
    if first == second:
        return 0
    return -1 if first < second else 1


def instance_key(kernel, instance):
    """What stands for the step of an instance where steps are put in order."""
    return step_key(kernel, instance[0], instance[3])


def meetings_in(kernel, done):
    """The instances of meetings in a lane's list."""
    return [instance for instance in done if kernel.statements[instance[0]][0] == "meet"]


def first_between(kernel, meetings, one, other):
    """The first step of one of the meetings that is between the steps of two instances, None if there is none."""
    low, high = sorted([instance_key(kernel, one), instance_key(kernel, other)])
    for meeting in meetings:
        if low < instance_key(kernel, meeting) < high:
            return meeting[0], meeting[3]
    return None


def check_two(kernel, sizes, one, other):
    """Raises the first error of two instances at sizes."""
    check_at(kernel, sizes)
    for instance in (one, other):
        if not is_there_as(kernel, sizes, instance, STANDS):
            raise BadInstance("this is no take, put, add or meeting that is there")


def between(kernel, sizes, one, other):
    """The first step of a meeting between two instances of one block, None if there is none."""
    done = lane_list(kernel, sizes, one[1], one[2])
    return first_between(kernel, meetings_in(kernel, done), one, other)


def meeting_between(kernel, sizes, one, other):
    """The first step of a meeting that stands between two instances, None if there is none."""
    check_two(kernel, sizes, one, other)
    if one[1] != other[1]:
        raise OtherBlocks("the blocks are unlike")
    return between(kernel, sizes, one, other)


def are_beside(kernel, sizes, one, other):
    """Whether two instances of unlike lanes are side by side."""
    check_two(kernel, sizes, one, other)
    if one[1:3] == other[1:3]:
        raise SameLane("the instances are of one lane")
    return stand_beside(kernel, sizes, one, other)


def stand_beside(kernel, sizes, one, other):
    """Whether what are surely instances of unlike lanes are side by side."""
    return one[1] != other[1] or between(kernel, sizes, one, other) is None


def beside(kernel, case):
    """The saying that both instances of a pair case are there and side by side."""
    check_kernel(kernel)
    if not is_pair_case(kernel, case):
        raise BadPair("this is no pair case")
    return beside_saying(kernel, case)
