"""The machine: lanes that go on in any order, and the outcome of an order."""

from lanesmeet.cases import DEEDS, STANDS, block_counts, cell_at, check_at, check_many, is_block, is_lane, lanes_of
from lanesmeet.cases import points_of
from lanesmeet.errors import BadBlock, BadCell, BadLane, BadOrder, NotAble
from lanesmeet.meaning import lane_list
from lanesmeet.plain import is_listing, is_number_tuple, is_tuple_of


def all_lists(kernel, sizes):
    """The instances of each (block, lane), in its order; TooMany for more than 20000 together."""
    counts = block_counts(kernel, sizes)
    lanes = lanes_of(kernel)
    found = {}
    if min(counts) < 1 or not points_of(kernel, STANDS):
        return found
    count = 0
    for y in range(counts[0]):
        for x in range(counts[1]):
            for lane in lanes:
                done = lane_list(kernel, sizes, (y, x), lane)
                count = count + len(done)
                check_many(count)
                found[((y, x), lane)] = done
    return found


def is_far_cell(kernel, thing, names):
    """Whether thing, beginning with a far array of these sizes, is a cell of it by its form."""
    if not is_tuple_of(thing, 2) or not is_tuple_of(thing[1], len(names)):
        return False
    return all([is_number_tuple(spot, 2) and 0 <= spot[1] < kernel.width for spot in thing[1]])


def is_cell(kernel, sizes, thing):
    """Whether thing is a cell of an array by its form."""
    if not isinstance(thing, tuple) or not thing:
        return False
    for sort, name, counts in kernel.arrays:
        if thing[0] == name:
            if sort == "far":
                return is_far_cell(kernel, thing, counts)
            return (is_tuple_of(thing, 3) and is_number_tuple(thing[1], len(counts))
                    and is_block(kernel, sizes, thing[2]))
    return False


class Run:
    """A run of a kernel at sizes: where each lane stands, and what is in the cells.

    lists are the instances of each (block, lane), spots how many of these it has behind it.
    """

    def __init__(self, kernel, sizes):
        check_at(kernel, sizes)
        self.kernel = kernel
        self.sizes = {name: sizes[name] for name in sizes}
        self.lists = all_lists(kernel, self.sizes)
        self.spots = {pair: 0 for pair in self.lists}
        self.lanes = lanes_of(kernel)
        self.blocks = [block for block, lane in self.lists if lane == self.lanes[0]]
        self.cells = {}
        self.seen = {}
        for block in self.blocks:
            self.pass_meetings(block)

    def next_of(self, pair):
        """The instance at which a pair (block, lane) stands, None if it has ended."""
        done = self.lists.get(pair, [])
        return done[self.spots[pair]] if done and self.spots[pair] < len(done) else None

    def word_of(self, instance):
        """The first word of the statement of an instance."""
        return self.kernel.statements[instance[0]][0]

    def is_able(self, pair):
        """Whether a pair (block, lane) can do a deed now."""
        instance = self.next_of(pair)
        return instance is not None and self.word_of(instance) in DEEDS

    def pass_meetings(self, block):
        """Lets all lanes of a block go on as long as all wait at one meeting."""
        pairs = [(block, lane) for lane in self.lanes]
        while self.all_wait(pairs):
            for pair in pairs:
                self.spots[pair] = self.spots[pair] + 1

    def all_wait(self, pairs):
        """Whether all pairs wait at meetings of the same point and turns."""
        first = self.next_of(pairs[0])
        if first is None or self.word_of(first) != "meet":
            return False
        for pair in pairs:
            other = self.next_of(pair)
            if other is None or other[0] != first[0] or other[3] != first[3]:
                return False
        return True

    def able(self):
        """The pairs (block, lane) that can do a deed now, ascending."""
        return [pair for pair in self.lists if self.is_able(pair)]

    def check_pair(self, block, lane):
        """Raises BadBlock or BadLane for what is not there."""
        if not is_block(self.kernel, self.sizes, block):
            raise BadBlock("there is no such block")
        if not is_lane(self.kernel, lane):
            raise BadLane("there is no such lane")

    def standing(self, block, lane):
        """The instance at which a lane stands, None if it has ended."""
        self.check_pair(block, lane)
        return self.next_of((block, lane))

    def do(self, block, lane):
        """Does the next deed of a lane; returns it."""
        self.check_pair(block, lane)
        if not self.is_able((block, lane)):
            raise NotAble("the lane waits or has ended")
        return self.step((block, lane))

    def step(self, pair):
        """Does the next deed of a pair that is able; returns it."""
        instance = self.next_of(pair)
        word = self.word_of(instance)
        cell = cell_at(self.kernel, self.sizes, instance)
        last, adds = self.cells.get(cell, (None, ()))
        if word != "add":
            self.seen[instance] = (last, adds)
        if word == "put":
            self.cells[cell] = (instance, ())
        if word == "add":
            self.cells[cell] = (last, tuple(sorted(adds + (instance,))))
        self.spots[pair] = self.spots[pair] + 1
        self.pass_meetings(pair[0])
        return instance

    def go(self, order):
        """Does the deeds of an order, up to the first that cannot be done."""
        if not is_listing(order):
            raise BadOrder(None)
        for at, pair in enumerate(order):
            if not self.is_pair(pair) or not self.is_able(pair):
                raise BadOrder(at)
            self.step(pair)

    def is_pair(self, thing):
        """Whether thing is a pair of a block and a lane by its form."""
        return is_tuple_of(thing, 2) and is_number_tuple(thing[0], 2) and is_number_tuple(thing[1], 2)

    def first_able(self, block):
        """The least pair of a block that can do a deed now, None if there is none."""
        for lane in self.lanes:
            if self.is_able((block, lane)):
                return block, lane
        return None

    def finish_block(self, block):
        """Goes on in a block by the text order to its end; returns the pairs."""
        found = []
        pair = self.first_able(block)
        while pair is not None:
            self.step(pair)
            found.append(pair)
            pair = self.first_able(block)
        return found

    def finish(self):
        """Goes on by the text order to the end."""
        for block in self.blocks:
            self.finish_block(block)

    def end(self):
        """None while something is able, otherwise "done", or "still" with the pairs that wait."""
        waiting = [pair for pair in self.lists if self.next_of(pair) is not None]
        for pair in waiting:
            if self.is_able(pair):
                return None
        return ("still", waiting) if waiting else "done"

    def content(self, cell):
        """The content of a cell."""
        if not is_cell(self.kernel, self.sizes, cell):
            raise BadCell("this is no cell of an array")
        return self.cells.get(cell, (None, ()))

    def met(self):
        """What the takes and puts that were done saw or covered."""
        return {instance: self.seen[instance] for instance in sorted(self.seen)}

    def outcome(self):
        """The end, what was met, and the contents of the cells."""
        return self.end(), self.met(), {cell: self.cells[cell] for cell in sorted(self.cells)}


def outcome_of(kernel, sizes, order):
    """The outcome behind an order, and behind it the text order."""
    run = Run(kernel, sizes)
    run.go(order)
    run.finish()
    return run.outcome()
