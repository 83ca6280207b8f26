"""Two kernels and a map for the tests: the example of [164], and some by a seed, perhaps with something wrong."""

import random

import nestery
import planning
from lanesmeet.changes import changed
from lanesmeet.errors import BadChange, LaneError
from lanesmeet.kernels import Kernel
from lanesmeet.making import cut, made
from lanesmeet.maps import are_fellows, is_map

LONE = ("none", None, 1)
STILL = (("none", None, 0), ("is", 0))
NOUGHT = ("is", 0)
FAR = (("far", "a", ("n",)), ("far", "b", ("n",)))


def plain_kernel():
    """The kernel one of [164]'s example."""
    where = ((("turn", "t", 0), ("turn", "o")),)
    body = (("take", "x", ("a", where)), ("let", "y", "f", ("x",)), ("put", ("b", where), "y"))
    return Kernel(2, (1, 1), (LONE, LONE), (("n", (0,)),), (), FAR, (
        ("long", "t", ("none", None, 0), ("tiles", "n", 0), (("short", "o", 2, body),)),))


def laned_kernel(small=("lane", 1), blocks=("tiles", "n", 0)):
    """The kernel other of [164]'s example, with another small for the take, or other blocks."""
    return Kernel(2, (1, 2), (blocks, LONE), (("n", (0,)),), (), FAR, (
        ("take", "x", ("a", ((("block", 0, 0), small),))), ("let", "y", "f", ("x",)),
        ("put", ("b", ((("block", 0, 0), ("lane", 1)),)), "y")))


TAIL = ((STILL, STILL), (NOUGHT, NOUGHT), ((("block", 0, 0), NOUGHT), ("lane", 1)))
CHART = ({0: (2,) + TAIL, 2: (4,) + TAIL}, {})


def copied_kernel(meets=True):
    """As the lanes of [164], but each lane takes by way of a shared array, what its fellow brought."""
    other = ("minus", ("is", 1), ("lane", 1))
    here = (("block", 0, 0), ("lane", 1))
    body = (("take", "w", ("a", (here,))), ("put", ("s", (("lane", 1),)), "w"))
    body = body + ((("meet",),) if meets else ())
    body = body + (("take", "x", ("s", (other,))), ("let", "y", "f", ("x",)),
                   ("put", ("b", ((("block", 0, 0), other),)), "y"))
    return Kernel(2, (1, 2), (("tiles", "n", 0), LONE), (("n", (0,)),), (), FAR + (("shared", "s", (2,)),), body)


TURNED = ((STILL, STILL), (NOUGHT, NOUGHT), ((("block", 0, 0), NOUGHT), ("minus", ("is", 1), ("lane", 1))))
COPIED = ({3: (2,) + TURNED, 5: (4,) + TURNED}, {3: (1, (NOUGHT, ("minus", ("is", 1), ("lane", 1))), ())})


def other_form(form, r):
    return form[:2] + (form[2] + r.choice((0, 1, -1)),)


def other_small(small, r):
    return r.choice((("is", r.randint(0, 1)), ("plus", small, ("is", 1)), ("minus", ("is", 1), small), small))


def other_turns(turns, r):
    turns = list(turns)
    if turns:
        at = r.randrange(len(turns))
        part = turns[at]
        turns[at] = (other_form(part[0], r), part[1]) if isinstance(part[0], tuple) else other_small(part, r)
    return tuple(turns)


def other_chart(chart, one, other, r):
    """A map with some other target or source."""
    deeds, sources = dict(chart[0]), dict(chart[1])
    if sources and r.random() < 0.3:
        point = r.choice(list(sources))
        put, lane, turns = sources[point]
        lane = (lane[0], other_small(lane[1], r)) if r.random() < 0.5 else lane
        sources[point] = (put, lane, other_turns(turns, r))
        return deeds, sources
    point = r.choice(list(deeds))
    target, blocks, lane, turns = deeds[point]
    k = r.random()
    if k < 0.35:
        turns = other_turns(turns, r)
    elif k < 0.6:
        target = r.choice([own for own in range(len(one.statements)) if one.statements[own][0] in ("take", "put", "add")
                           and [loop[:2] for loop in one.loops[own]] == [loop[:2] for loop in one.loops[target]]])
    elif k < 0.7:
        lane = (lane[0], ("is", 1))
    elif k < 0.8:
        blocks = ((("none", None, 1), NOUGHT), blocks[1])
    elif other.statements[point][0] == "take" and point not in sources:
        deeds.pop(point)
        return deeds, sources
    deeds[point] = (target, blocks, lane, turns)
    return deeds, sources


def other_body(body, r):
    """A body with some statements changed a little."""
    found = []
    for statement in body:
        word = statement[0]
        if word == "let" and r.random() < 0.15:
            statement = ("let", statement[1], "h", statement[3])
        if word in ("take", "put", "add") and r.random() < 0.15:
            at = 2 if word == "take" else 1
            array, where = statement[at]
            where = list(where)
            spot = r.randrange(len(where))
            part = where[spot]
            where[spot] = ((other_form(part[0], r), other_small(part[1], r)) if isinstance(part[0], tuple)
                           else other_small(part, r))
            statement = statement[:at] + ((array, tuple(where)),) + statement[at + 1:]
        if word == "short":
            statement = statement[:3] + (other_body(statement[3], r),)
        if word == "long":
            high = other_form(statement[3], r) if r.random() < 0.1 else statement[3]
            statement = statement[:3] + (high, other_body(statement[4], r))
        if word == "if":
            statement = ("if", statement[1], other_body(statement[2], r), statement[3])
        found.append(statement)
    return tuple(found)


def changed_pair(nest, r):
    for _ in range(40):
        point = r.randrange(len(nest.statements))
        change = r.choice((("swap", point), ("exchange", point), ("join", point), ("part", point, 1), ("shift", point, 1)))
        try:
            return (nest,) + changed(nest, change)
        except BadChange:
            pass
    return None


def made_pair(seed):
    """A triple (one, other, map), None if none is soon found; both may be wrong somehow."""
    r = random.Random(seed)
    nest = nestery.made_nest(seed, loops=2, pieces=2)
    if r.random() < 0.75:
        plan = planning.fitting_plan(nest, r, (1, 2, 2, 2))
        found = None if plan is None else (cut(nest, plan.width),) + made(nest, plan)
    else:
        found = changed_pair(nest, r)
    if found is None:
        return None
    one, other, chart = found
    if r.random() < 0.6:
        drawn = other_chart(chart, one, other, r)
        chart = drawn if is_map(one, other, drawn) else chart
    if r.random() < 0.6:
        try:
            mate = Kernel(other.width, other.lanes, other.blocks, other.sizes, (), other.arrays, other_body(other.body, r))
        except LaneError:
            return one, other, chart
        if are_fellows(one, mate) and is_map(one, mate, chart):
            other = mate
    return one, other, chart
