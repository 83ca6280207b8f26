"""Rounds: nests written anew by heights, one loop outside of all, and how many rounds are wanted."""

from lanesmeet.cases import DEEDS, cell_at
from lanesmeet.changes import target_for
from lanesmeet.crossings import bare_cases
from lanesmeet.errors import BadBody, BadName, NotBounded, NotRising, TooDeep, TooMany
from lanesmeet.forms import is_word, tiles_name
from lanesmeet.guards import form_name
from lanesmeet.heights import check_heights, drops_of, first_fall, steps_of
from lanesmeet.moves import Draft, around_it, order_guard, put_together
from lanesmeet.nests import check_nest, check_nest_at, deeds_along, piece_names, piece_points
from lanesmeet.parts import Renamer, with_more
from lanesmeet.rewriting import with_body
from lanesmeet.ways import least_sums, weighed

MOST_CHOICES = 20000


def check_size(nest, size):
    """Raises BadName for what is neither None nor the name of a size."""
    if size is not None and (not isinstance(size, str) or size not in [own[0] for own in nest.sizes]):
        raise BadName("this is neither None nor the name of a size")


def live_systems(nest, name):
    """The systems of a piece's cases that have a point. They are kept with the nest."""
    key = ("live", name)
    if key not in nest.held:
        nest.held[key] = [rows for _, rows in bare_cases(nest, name) if weighed(rows, {})[0] is not None]
    return nest.held[key]


def least_of(systems, name):
    """The least number of a name over all points of systems, which have some; it has one."""
    return -max([least_sums(rows, None)[name] for rows in systems])


def most_of(systems, name, other):
    """The greatest difference of two names over all points of systems; None if there is none."""
    mosts = [0 if name == other else least_sums(rows, name).get(other) for rows in systems]
    return None if None in mosts else max(mosts)


def ends_for(nest, name, base, size):
    """A pair for a piece that has deeds: the least number of a base, its greatest one less the size, or None."""
    systems = live_systems(nest, name)
    own = form_name(base)
    return least_of(systems, own), most_of(systems, own, tiles_name(size))


def reach_for(nest, heights, size):
    """As reach_of, of what are surely heights and a size."""
    lows = []
    highs = []
    for name in heights:
        if live_systems(nest, name):
            low, high = ends_for(nest, name, heights[name], size)
            lows.append(low + heights[name][2])
            highs.append(None if high is None else high + heights[name][2])
    return min(lows, default=None), None if None in highs else max(highs, default=None)


def reach_of(nest, heights, size):
    """The greatest number that no deed's number is below, the least that none is above, beyond the size; or None."""
    check_heights(nest, heights)
    check_size(nest, size)
    return reach_for(nest, heights, size)


def bases_for(nest, name):
    """All bases of a piece."""
    loops = [("turn", loop[1], 0) for loop in nest.loops[name]]
    return [("none", None, 0)] + [("tiles", size[0], 0) for size in nest.sizes] + loops


class Rounder:
    """The search for the heights that want the fewest rounds.

    ends are those of each base of a piece that has deeds, links the steps from piece to piece.
    """

    def __init__(self, nest, size):
        self.nest = nest
        self.names = [name for name in piece_points(nest) if live_systems(nest, name)]
        self.ends = {name: {base: ends_for(nest, name, base, size) for base in bases_for(nest, name)}
                     for name in self.names}
        self.drops = drops_of(nest)
        self.links = {}
        self.weights = {}
        self.best = None
        for step in steps_of(nest):
            pair = self.drops.names[step[0]], self.drops.names[step[1]]
            self.links.setdefault(pair, []).append(step)

    def weight(self, pair, low, high):
        """How much less the first piece's number must be than the second one's; None for more than any number."""
        key = pair, low, high
        if key not in self.weights:
            drops = [self.drops.drop(step, low, high) for step in self.links[pair]]
            self.weights[key] = None if None in drops else max(drops) + 1
        return self.weights[key]

    def try_from(self, at, choice):
        """Looks at all choices of bases for the pieces from an index on."""
        if at == len(self.names):
            self.settle(choice)
            return
        name = self.names[at]
        for base in self.ends[name]:
            if self.ends[name][base][1] is not None:
                own = {other: choice[other] for other in choice}
                own[name] = base
                if self.can_stand(own, name):
                    self.try_from(at + 1, own)

    def can_stand(self, choice, name):
        """Whether the steps between a piece and those chosen so far have greatest drops."""
        for pair in self.links:
            if name in pair and pair[0] in choice and pair[1] in choice:
                weight = self.weight(pair, choice[pair[0]], choice[pair[1]])
                if weight is None or pair[0] == pair[1] and weight > 0:
                    return False
        return True

    def settle(self, choice):
        """Keeps the heights of a whole choice if they want fewer rounds than any so far."""
        numbers = {name: -self.ends[name][choice[name]][0] for name in choice}
        links = [(pair, self.weight(pair, choice[pair[0]], choice[pair[1]])) for pair in self.links]
        rounds = len(numbers) + 1
        for _ in range(rounds):
            moved = False
            for (one, other), weight in links:
                if numbers[other] < numbers[one] + weight:
                    numbers[other] = numbers[one] + weight
                    moved = True
            if not moved:
                self.keep(choice, numbers)
                return

    def keep(self, choice, numbers):
        """Keeps heights, bases with these numbers, if they want fewer rounds than any so far."""
        # The least number of all deeds is 0, by the start that each number had.
        count = max([numbers[name] + self.ends[name][choice[name]][1] for name in choice]) + 1
        if self.best is None or count < self.best[0]:
            self.best = count, {name: with_more(choice[name], numbers[name]) for name in choice}


def fewest_rounds(nest, size):
    """The fewest rounds beyond the size that heights that rise want, and such heights; None if there are none."""
    check_nest(nest)
    check_size(nest, size)
    count = 1
    for name in piece_points(nest):
        count = count * len(bases_for(nest, name))
        if count > MOST_CHOICES:
            raise TooMany(MOST_CHOICES)
    rounder = Rounder(nest, size)
    if not rounder.names:
        return None
    rounder.try_from(0, {})
    if rounder.best is None:
        return None
    number, heights = rounder.best
    return number, {name: heights.get(name, ("none", None, 0)) for name in piece_points(nest)}


class Links:
    """The longest chains that end at doings so far. last tells for each doing (length, the doing ahead of it).

    marks has for each cell and word the doing with the longest chain of those with such a deed there.
    """

    def __init__(self):
        self.last = {}
        self.marks = {}

    def add_doing(self, name, deeds):
        """Notes a doing, behind all others, with its deeds (word, cell)."""
        length = 0
        before = None
        for word, cell in deeds:
            for mate in crossing_words(word):
                other = self.marks.get((cell, mate))
                if other is not None and self.last[other][0] > length:
                    length = self.last[other][0]
                    before = other
        self.last[name] = length + 1, before
        for key in deeds:
            own = self.marks.get((key[1], key[0]))
            if own is None or self.last[own][0] <= length:
                self.marks[(key[1], key[0])] = name

    def longest(self):
        """One of the longest chains."""
        best = None
        for name in self.last:
            if best is None or self.last[name][0] > self.last[best][0]:
                best = name
        found = []
        while best is not None:
            found.append(best)
            best = self.last[best][1]
        return tuple(found[::-1])


def crossing_words(word):
    """The words of deeds that a deed with this word crosses."""
    if word == "put":
        return DEEDS
    return ("put", "take") if word == "add" else ("put", "add")


def chain_at(nest, sizes):
    """One of the longest tuples of doings each of which has a deed that crosses one of the next, and is ahead."""
    check_nest_at(nest, sizes)
    links = Links()
    names = piece_names(nest)
    deeds = []
    for deed in deeds_along(nest, sizes):
        word = nest.statements[deed[0]][0]
        deeds.append((word, cell_at(nest, sizes, deed)))
        # The put or add is the last deed of its doing.
        if names[deed[0]] == deed[0]:
            links.add_doing(deed, deeds)
            deeds = []
    return links.longest()


def check_round_name(nest, name):
    """Raises BadName for what is no name, or one of a loop."""
    if not is_word(name):
        raise BadName("this is no name")
    if name in [statement[1] for statement in nest.statements if statement[0] == "long"]:
        raise BadName("this is the name of a loop")


class Rewriter:
    """A piece of a nest written anew, its loop's turns being told by the rounds of this name and its height."""

    def __init__(self, nest, name, height):
        self.nest = nest
        self.name = name
        self.height = height
        self.loop = height[1] if height[0] == "turn" else None
        self.renamer = Renamer({} if self.loop is None else {self.loop: (name, -height[2])})

    def round_turn(self, more):
        """The turn of the rounds, with more."""
        return "turn", self.name, more

    def old_turn_of(self, name):
        """The form that the old turns of a loop have."""
        return self.round_turn(-self.height[2]) if name == self.loop else ("turn", name, 0)

    def piece_draft(self, points):
        """The draft of the item for a piece with these points."""
        statements = tuple([self.renamer.new_statement(self.nest.statements[point]) for point in points])
        draft = Draft(statements, points)
        for outer, side in reversed(self.nest.arounds[points[-1]]):
            draft = self.outward(self.renamer.new_statement(self.nest.statements[outer]), side, draft)
        if self.loop is not None:
            return draft
        now = self.round_turn(0)
        return self.guarded(("and", order_guard(now, self.height), order_guard(self.height, now)), draft)

    def guarded(self, guard, draft):
        """The draft within an if."""
        return around_it(("if", guard, (), ()), None, [draft, Draft((), ())])

    def outward(self, statement, side, draft):
        """The draft within what comes of a loop or an if around it."""
        if statement[0] == "if":
            return self.guarded(statement[1] if side == 0 else ("not", statement[1]), draft)
        if statement[1] != self.loop:
            return around_it(statement, None, [draft])
        begin = order_guard(statement[2], self.round_turn(-self.height[2]))
        end = order_guard(self.round_turn(1 - self.height[2]), statement[3])
        return self.guarded(("and", begin, end), draft)


def by_heights(nest, heights, name, size):
    """The nest in rounds of this name, each of which does the deeds of one number, and the map of the nest and it."""
    check_heights(nest, heights)
    check_round_name(nest, name)
    check_size(nest, size)
    if first_fall(nest, heights) is not None:
        raise NotRising("two deeds that cross have numbers that do not rise")
    low, high = reach_for(nest, heights, size)
    if low is None or high is None:
        raise NotBounded(size)
    pieces = piece_points(nest)
    writers = {piece: Rewriter(nest, name, heights[piece]) for piece in pieces}
    draft = put_together([writers[piece].piece_draft(pieces[piece]) for piece in pieces])
    end = ("none", None, high + 1) if size is None else ("tiles", size, high + 1)
    whole = around_it(("long", name, ("none", None, low), end, ()), None, [draft])
    try:
        found = with_body(nest, whole.statements)
    except BadBody:
        raise TooDeep("what comes is no nest by its limits")
    names = piece_names(nest)
    deeds = {}
    for point, old in enumerate(whole.olds):
        if old is not None and nest.statements[old][0] in DEEDS:
            turns = [writers[names[old]].old_turn_of(loop[1]) for loop in nest.loops[old]]
            deeds[point] = target_for(nest, old, turns)
    return found, (deeds, {})
