"""The text of a kernel that is made of a nest by a plan: what each loop, piece and copy becomes."""

from lanesmeet.forms import place_of
from lanesmeet.guards import Sight, small_number
from lanesmeet.nests import items_of
from lanesmeet.parts import NOTHING, Renamer, with_more
from lanesmeet.rewriting import with_blocks

MEET = ("meet",)
STILL = (("none", None, 0), ("is", 0))


def plain_sight(nest):
    """What the one lane of a nest knows: all rests are 0."""
    return Sight(1, (0, 0), {}, {size[0]: 0 for size in nest.sizes})


def full_form(nest, spot):
    """The form of a spot of a nest, with its number added."""
    return with_more(spot[0], small_number(spot[1], plain_sight(nest)))


def plus_times(small, times, other):
    """The small that stands for small + times * other."""
    return "plus", small, ("times", ("is", times), other)


def plus_number(small, number):
    """The small with a number added, the small itself for 0."""
    return small if number == 0 else ("plus", small, ("is", number))


def joined_guard(guards):
    """The guards joined by "and" from the left; there is one at least."""
    found = guards[0]
    for guard in guards[1:]:
        found = ("and", found, guard)
    return found


class Strand:
    """What a loop of a nest becomes: the form of its tile, the small of its offset, a long and a short loop.

    has_long tells whether there is a long loop, short how many turns the short one has, 0 for none;
    axis is that of its role, None for "turn", is_block whether its tile is the block.
    """

    def __init__(self, name, role, width, lanes):
        self.name = name
        self.axis = role[1] if len(role) == 2 else None
        self.is_block = role[0] == "block"
        self.has_long = not self.is_block
        self.tile = ("turn", name, 0) if self.has_long else ("block", self.axis, 0)
        self.width = 1 if self.axis is None else lanes[self.axis]
        self.short = width // self.width if width > self.width else 0
        turn = ("turn", name + "s")
        if self.axis is None:
            self.offset = turn if self.short else NOTHING
        else:
            lane = ("lane", self.axis)
            self.offset = plus_times(lane, self.width, turn) if self.short else lane


class Sheet:
    """Statements of one block, what each of these and of those in them was, and where the gaps of the nest lie.

    What a statement was is its point in the nest, ("long", point), ("short", point), ("put", array) for the
    put of a copy, or None. Marks are pairs (gap, how many statements stand ahead of it).
    """

    def __init__(self, statements, olds, marks):
        self.statements = statements
        self.olds = olds
        self.marks = marks


def in_row(sheets):
    """The sheet of what stands in several sheets, one behind the other."""
    statements = ()
    olds = ()
    marks = ()
    for sheet in sheets:
        marks = marks + tuple([(gap, ahead + len(olds)) for gap, ahead in sheet.marks])
        statements = statements + sheet.statements
        olds = olds + sheet.olds
    return Sheet(statements, olds, marks)


def one_statement(statement, old):
    """The sheet of a statement without blocks."""
    return Sheet((statement,), (old,), ())


def around_sheet(statement, old, sheet):
    """The sheet of a statement whose first block is told by a sheet; a second one is empty."""
    blocks = [sheet.statements, ()] if statement[0] == "if" else [sheet.statements]
    marks = tuple([(gap, ahead + 1) for gap, ahead in sheet.marks])
    return Sheet((with_blocks(statement, blocks),), (old,) + sheet.olds, marks)


class Splitter(Renamer):
    """Writes statements of a nest anew, strands by names telling what their loops become.

    lows tells for each copied array the least numbers of its coordinates.
    """

    def __init__(self, nest, strands, lows):
        Renamer.__init__(self, {})
        self.nest = nest
        self.strands = strands
        self.lows = lows

    def split_form(self, form):
        """The spot that a form of the nest becomes."""
        word, name, more = form
        if word == "tiles":
            return ("tiles", name, 0), plus_number(("rest", name), more)
        if word == "none":
            return ("none", None, 0), plus_number(NOTHING, more)
        return self.strands[name].tile, plus_number(self.strands[name].offset, more)

    def new_spot(self, spot):
        """The spot as it stands in the new text."""
        return self.split_form(full_form(self.nest, spot))

    def new_small(self, small):
        """The small as it stands in the new text."""
        return "is", small_number(small, plain_sight(self.nest))

    def new_place(self, place):
        """The place as it stands in the new text."""
        array, where = place
        if array not in self.lows:
            return array, tuple([self.new_spot(spot) for spot in where])
        return array + "s", tuple(self.copied_smalls(place))

    def copied_smalls(self, place):
        """The smalls at which a copied array is taken from."""
        found = []
        for spot, low in zip(place[1], self.lows[place[0]]):
            _, name, more = full_form(self.nest, spot)
            found.append(plus_number(self.strands[name].offset, more - low))
        return found


class Copy:
    """A copy of an array: the point of its loop or None, and for each coordinate a tile, the least number, the count.

    axes are those of the lanes for each coordinate.
    """

    def __init__(self, array, point, tiles, lows, counts, axes):
        self.array = array
        self.point = point
        self.tiles = tiles
        self.lows = lows
        self.counts = counts
        self.axes = axes

    def loop_name(self, at):
        """The name of the short loop of a coordinate, if it has one."""
        return self.array + "ab"[at]


class Layout:
    """What a plan tells, as it is asked for where a kernel is made; also for cuts, which have no plan."""

    def __init__(self, width, lanes, blocks, roles, gaps, copies):
        self.width = width
        self.lanes = lanes
        self.blocks = blocks
        self.roles = roles
        self.gaps = gaps
        self.copies = copies


class Weaver:
    """The text of a kernel made of a nest by a plan; gaps are those with meetings, copies as copies_of tells."""

    def __init__(self, nest, plan, copies):
        self.nest = nest
        self.plan = plan
        self.copies = copies
        self.strands = {}
        for point in plan.roles:
            name = nest.statements[point][1]
            self.strands[point] = Strand(name, plan.roles[point], plan.width, plan.lanes)
        self.lows = {copy.array: copy.lows for copy in copies}

    def splitter_for(self, point):
        """What writes the statement of a point anew."""
        strands = {name: self.strands[outer] for _, name, outer in self.nest.loops[point]}
        return Splitter(self.nest, strands, self.lows)

    def whole_sheet(self):
        """The sheet of the whole body."""
        return in_row([self.copies_sheet(None, False), self.block_sheet(())])

    def block_sheet(self, seat):
        """The sheet of a block."""
        sheets = []
        items = items_of(self.nest)[seat]
        for at, item in enumerate(items):
            sheets.append(self.gap_sheet((seat, at)))
            sheets.append(self.item_sheet(item))
        sheets.append(self.gap_sheet((seat, len(items))))
        return in_row(sheets)

    def gap_sheet(self, gap):
        """The sheet of what stands at a gap: a meeting or nothing."""
        if gap in self.plan.gaps:
            return Sheet((MEET,), (None,), ((gap, 0),))
        return Sheet((), (), ((gap, 0),))

    def item_sheet(self, item):
        """The sheet of an item."""
        point = item[0]
        word = self.nest.statements[point][0]
        if word == "long":
            return self.loop_sheet(point)
        if word == "if":
            return in_row([self.block_sheet((point, 0)), self.block_sheet((point, 1))])
        return self.piece_sheet(item)

    def loop_sheet(self, point):
        """The sheet of what a loop becomes."""
        _, name, low, high, _ = self.nest.statements[point]
        strand = self.strands[point]
        sheet = self.block_sheet((point, None))
        if strand.short:
            sheet = around_sheet(("short", name + "s", strand.short, ()), ("short", point), sheet)
        if not strand.has_long:
            return sheet
        sheet = in_row([self.copies_sheet(point, False), sheet, self.copies_sheet(point, True)])
        statement = ("long", name, self.first_form(point, low), self.last_form(point, high), ())
        return around_sheet(statement, ("long", point), sheet)

    def tile_with(self, point, form, more):
        """The form of the tile of a loop's form, with more; None stands for what has no name."""
        if form[0] == "turn":
            return with_more(self.splitter_for(point).strands[form[1]].tile, more)
        return form[0], form[1], more

    def first_form(self, point, form):
        """The form from which a long loop goes."""
        return self.tile_with(point, form, form[2] // self.plan.width)

    def last_form(self, point, form):
        """The form up to which a long loop goes."""
        width = self.plan.width
        if form[0] == "none":
            return form[0], form[1], (form[2] - 1) // width + 1
        return self.tile_with(point, form, (form[2] - 2) // width + 2)

    def piece_sheet(self, item):
        """The sheet of a piece, within its guard."""
        splitter = self.splitter_for(item[-1])
        statements = tuple([splitter.new_statement(self.nest.statements[point]) for point in item])
        sheet = Sheet(statements, item, ())
        guards = self.guards_of(item[-1], splitter)
        return around_sheet(("if", joined_guard(guards), (), ()), None, sheet) if guards else sheet

    def guards_of(self, point, splitter):
        """The guards that say that a piece is there for a lane."""
        found = []
        for outer, side in self.nest.arounds[point]:
            statement = self.nest.statements[outer]
            if statement[0] == "if":
                guard = splitter.new_guard(statement[1])
                found.append(guard if side == 0 else ("not", guard))
            else:
                _, name, low, high, _ = statement
                found.append(("order", splitter.split_form(low), splitter.split_form(("turn", name, 0))))
                found.append(("order", splitter.split_form(("turn", name, 1)), splitter.split_form(high)))
        return found + self.single_lanes([self.strands[outer].axis for _, _, outer in self.nest.loops[point]])

    def single_lanes(self, axes):
        """The guards that just the lane 0 does it on each axis that is not among these, and has more lanes."""
        return [("small", ("lane", axis), "same", NOTHING) for axis in (0, 1)
                if axis not in axes and self.plan.lanes[axis] > 1]

    def copies_sheet(self, point, is_end):
        """The sheet of the copies of a loop, or of the body, with a meeting behind them; at the end just a meeting."""
        own = [copy for copy in self.copies if copy.point == point]
        meeting = one_statement(MEET, None)
        if not own:
            return in_row([])
        return meeting if is_end else in_row([self.copy_sheet(copy) for copy in own] + [meeting])

    def lanes_along(self, copy, at):
        """A pair for a coordinate of a copy: how many lanes share it, and how many turns each of them takes."""
        lanes = self.plan.lanes[copy.axes[at]]
        return lanes, -(-copy.counts[at] // lanes)

    def copy_small(self, copy, at):
        """The small that tells where a lane stands along a coordinate of a copy."""
        lanes, rounds = self.lanes_along(copy, at)
        lane = ("lane", copy.axes[at])
        return plus_times(lane, lanes, ("turn", copy.loop_name(at))) if rounds > 1 else lane

    def copy_sheet(self, copy):
        """The sheet of a copy."""
        array = [own for own in self.nest.arrays if own[1] == copy.array][0]
        coordinates = list(range(len(copy.counts)))
        smalls = [self.copy_small(copy, at) for at in coordinates]
        spots = [(copy.tiles[at], plus_number(smalls[at], copy.lows[at])) for at in coordinates]
        guards = []
        for at in coordinates:
            lanes, rounds = self.lanes_along(copy, at)
            if lanes * rounds > copy.counts[at]:
                guards.append(("small", smalls[at], "less", ("is", copy.counts[at])))
        guards = guards + [("within", spots[at], array[2][at]) for at in coordinates] + self.single_lanes(copy.axes)
        take = one_statement(("take", "w", (copy.array, tuple(spots))), None)
        put = one_statement(("put", (copy.array + "s", tuple(smalls)), "w"), ("put", copy.array))
        sheet = around_sheet(("if", joined_guard(guards), (), ()), None, in_row([take, put]))
        for at in reversed(coordinates):
            _, rounds = self.lanes_along(copy, at)
            if rounds > 1:
                sheet = around_sheet(("short", copy.loop_name(at), rounds, ()), None, sheet)
        return sheet


def takes_from(nest, array):
    """The points of all takes from an array, ascending."""
    found = [point for point, statement in enumerate(nest.statements) if statement[0] == "take"]
    return [point for point in found if place_of(nest.statements[point])[0] == array]
