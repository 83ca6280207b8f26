"""What kernels mean: instances at given sizes, and cases for all sizes."""

from lanesmeet.cases import DEEDS, STANDS, busy_points, cell_at, check_at, check_many, is_block, is_choice
from lanesmeet.cases import is_instance, is_lane, is_point_of, marked_rows, meeting_rows, point_cases, reached
from lanesmeet.cases import rests_at, stands_there, tiles_at
from lanesmeet.differences import check_system
from lanesmeet.errors import BadBlock, BadChoice, BadInstance, BadLane, BadPoint
from lanesmeet.guards import Ground, Sight, form_number, guard_holds
from lanesmeet.kernels import check_kernel
from lanesmeet.plain import is_between


class Walk:
    """A lane's way through the text at given sizes. turns are the numbers of the loops that it is in."""

    def __init__(self, kernel, sizes, block, lane):
        self.kernel = kernel
        self.block = block
        self.lane = lane
        self.turns = {}
        self.sight = Sight(kernel.width, lane, self.turns, rests_at(sizes))
        self.ground = Ground(block, self.turns, tiles_at(sizes))
        self.busy = busy_points(kernel)
        self.found = []

    def go_through(self, points, path):
        """Goes through the statements of a block, path being the numbers of the loops around."""
        for point in points:
            statement = self.kernel.statements[point]
            inner = self.kernel.inner[point]
            word = statement[0]
            if word in STANDS:
                self.found.append((point, self.block, self.lane, path))
                check_many(len(self.found))
            elif word == "if":
                holds = guard_holds(statement[1], self.sight, self.ground)
                self.go_through(inner[0] if holds else inner[1], path)
            # A loop in which nothing is done may have very many turns.
            elif word == "short" and self.busy[point]:
                self.go_round(statement[1], 0, statement[2], inner[0], path)
            elif word == "long" and self.busy[point]:
                low = form_number(statement[2], self.ground)
                self.go_round(statement[1], low, form_number(statement[3], self.ground), inner[0], path)

    def go_round(self, name, low, high, points, path):
        """Goes through the statements of a loop, turn by turn, from low on, below high."""
        for turn in range(low, high):
            self.turns[name] = turn
            self.go_through(points, path + (turn,))


def lane_list(kernel, sizes, block, lane):
    """All instances of takes, puts, adds and meetings of a lane, in its order."""
    walk = Walk(kernel, sizes, block, lane)
    walk.go_through(kernel.tops, ())
    return walk.found


def instances(kernel, sizes, block, lane):
    """All instances of takes, puts, adds and meetings of a lane, in the order in which it does them."""
    check_at(kernel, sizes)
    if not is_block(kernel, sizes, block):
        raise BadBlock("there is no such block")
    if not is_lane(kernel, lane):
        raise BadLane("there is no such lane")
    return lane_list(kernel, sizes, block, lane)


def is_there(kernel, sizes, thing):
    """Whether thing is an instance of any statement that is there."""
    check_at(kernel, sizes)
    return is_instance(kernel, thing) and stands_there(kernel, sizes, thing)


def is_there_as(kernel, sizes, thing, words):
    """Whether thing is an instance that is there, of a statement with one of the words."""
    if not is_instance(kernel, thing) or kernel.statements[thing[0]][0] not in words:
        return False
    return stands_there(kernel, sizes, thing)


def cell_of(kernel, sizes, instance):
    """The cell to which an instance of a take, put or add comes."""
    check_at(kernel, sizes)
    if not is_there_as(kernel, sizes, instance, DEEDS):
        raise BadInstance("this is no take, put or add that is there")
    return cell_at(kernel, sizes, instance)


def cases_of(kernel, point):
    """All cases of a point, choices ascending."""
    check_kernel(kernel)
    if not is_between(point, 0, len(kernel.statements) - 1):
        raise BadPoint("the kernel has no such statement")
    return [(choice, list(system)) for choice, system in point_cases(kernel, point)]


def marked(system):
    """The system with the marked names of a second instance."""
    check_system(system)
    return marked_rows(system)


def check_deed_choice(kernel, point, choice):
    """Raises BadPoint for no point of a take, put or add, BadChoice for no choice of a case of it."""
    if not is_point_of(kernel, point, DEEDS):
        raise BadPoint("this is no point of a take, put or add")
    if not is_choice(kernel, point, choice):
        raise BadChoice("this is no choice of a case")


def same_cell(kernel, one, first, other, second):
    """The rows that hold exactly if two instances are at one cell, None if they cannot be."""
    check_kernel(kernel)
    check_deed_choice(kernel, one, first)
    check_deed_choice(kernel, other, second)
    if first[2] != second[2]:
        raise BadChoice("the choices have unlike rests")
    return meeting_rows(reached(kernel, one, first), reached(kernel, other, second))
