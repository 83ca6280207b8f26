"""What the numbers of a point of some case tell: sizes, turns and instances."""

from lanesmeet.cases import MARK, long_loops
from lanesmeet.ways import weighed


class Scales:
    """Whether systems have a point: many cases have one system, which is weighed once."""

    def __init__(self):
        self.known = {}

    def has_point(self, system):
        """Whether the system has a point."""
        key = tuple(system)
        if key not in self.known:
            self.known[key] = weighed(system, {})[0] is not None
        return self.known[key]


def sizes_of(kernel, rests, numbers):
    """The sizes with these rests and the tiles that numbers tell, by ascending names."""
    pairs = {size[0]: (numbers["tiles " + size[0]], rest) for size, rest in zip(kernel.sizes, rests)}
    return {name: pairs[name] for name in sorted(pairs)}


def block_of(numbers, mark):
    """The block that numbers tell, its names having the mark behind them."""
    return numbers["block 0" + mark], numbers["block 1" + mark]


def all_turns(kernel, point, turns, numbers, mark):
    """The numbers of all loops around a point, those of long ones as numbers tell."""
    long = {name: numbers["turn " + name + mark] for name in long_loops(kernel, point)}
    shorts = list(turns)
    found = []
    for sort, name, _ in kernel.loops[point]:
        found.append(long[name] if sort == "long" else shorts.pop(0))
    return tuple(found)


def instance_by(kernel, point, choice, numbers, mark):
    """The instance of a point that a choice and numbers tell."""
    return point, block_of(numbers, mark), choice[0], all_turns(kernel, point, choice[1], numbers, mark)


def first_instance(kernel, point, choice, numbers):
    """The instance that numbers tell, or the first one of two."""
    return instance_by(kernel, point, choice, numbers, "")


def second_instance(kernel, point, choice, numbers):
    """The second one of two instances that numbers tell."""
    return instance_by(kernel, point, choice, numbers, MARK)
