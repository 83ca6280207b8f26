"""Kernels made of nests by plans, with the maps that tell which deed does what."""

from lanesmeet.cases import DEEDS
from lanesmeet.errors import BadWidth, NotFit
from lanesmeet.fitting import cut_of, weave
from lanesmeet.forms import WIDEST, place_of
from lanesmeet.nests import check_nest
from lanesmeet.parts import NOTHING, plain_spot
from lanesmeet.plain import is_between
from lanesmeet.plans import check_plan
from lanesmeet.weaving import STILL


def woven_for(nest, plan):
    """What is made of a nest by a plan; the last one is kept with the nest."""
    check_plan(nest, plan)
    if "woven" in nest.held and nest.held["woven"][0] == plan:
        return nest.held["woven"][1]
    word, woven = weave(nest, plan)
    if word is not None:
        raise NotFit(word)
    nest.held["woven"] = plan, woven
    return woven


class Charter:
    """The map of a cut and what is made, told statement by statement."""

    def __init__(self, nest, woven):
        self.nest = nest
        self.woven = woven
        self.strands = woven.weaver.strands
        self.puts = {old[1]: at for at, old in enumerate(woven.sheet.olds) if is_mark(old, "put")}
        self.copies = {copy.array: copy for copy in woven.weaver.copies}

    def target(self, old):
        """The target of a deed that was at an old point."""
        turns = []
        for _, _, outer in self.nest.loops[old]:
            strand = self.strands[outer]
            turns.append(plain_spot(strand.tile))
            if self.woven.layout.width > 1:
                turns.append(strand.offset)
        return self.woven.cut_points[old], (STILL, STILL), (NOTHING, NOTHING), tuple(turns)

    def source(self, point, old):
        """The source of the read at a point, which was a take at an old point."""
        place = place_of(self.nest.statements[old])
        copy = self.copies[place[0]]
        lanes = [NOTHING, NOTHING]
        over = {}
        for at, small in enumerate(place_of(self.woven.kernel.statements[point])[1]):
            count, _ = self.woven.weaver.lanes_along(copy, at)
            lanes[copy.axes[at]] = ("rest of", small, count)
            over[copy.loop_name(at)] = ("over", small, count)
        put = self.puts[place[0]]
        turns = []
        for sort, name, outer in self.woven.kernel.loops[put]:
            if is_mark(self.woven.sheet.olds[outer], sort):
                turns.append(plain_spot(("turn", name, 0)) if sort == "long" else ("turn", name))
            else:
                turns.append(over[name])
        return put, tuple(lanes), tuple(turns)


def is_mark(old, word):
    """Whether what a statement was is told by a pair with this word."""
    return isinstance(old, tuple) and old[0] == word


def chart_of(nest, woven):
    """The map of the cut and the kernel."""
    charter = Charter(nest, woven)
    deeds = {}
    sources = {}
    for point, old in enumerate(woven.sheet.olds):
        if isinstance(old, int) and nest.statements[old][0] in DEEDS:
            deeds[point] = charter.target(old)
            if place_of(nest.statements[old])[0] in charter.copies:
                sources[point] = charter.source(point, old)
    return deeds, sources


def made(nest, plan):
    """The kernel made of a nest by a plan, and the map of the cut and it."""
    woven = woven_for(nest, plan)
    return woven.kernel, chart_of(nest, woven)


def cut(nest, width):
    """The kernel with one lane and one block that has the nest's outcome, each number being cut by the width."""
    check_nest(nest)
    if not is_between(width, 1, WIDEST):
        raise BadWidth("a width is a number from 1 to 8")
    found, _ = cut_of(nest, width)
    if found is None:
        raise NotFit("kernel")
    return found
