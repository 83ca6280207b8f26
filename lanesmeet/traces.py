"""Journals: the least record of an outcome, and all outcomes that orders can have."""

from lanesmeet.cases import DEEDS, is_instance
from lanesmeet.errors import BadDeed, BadOrder, BadWays, TooMany
from lanesmeet.loose import Order, Weft
from lanesmeet.meaning import is_there_as
from lanesmeet.outcomes import ways_told
from lanesmeet.plain import has_bool, has_just_keys, is_listing, is_rising, is_tuple_of


def check_deed(kernel, sizes, deed):
    """Raises BadDeed for what is no deed that is there."""
    if not is_there_as(kernel, sizes, deed, DEEDS):
        raise BadDeed("this is no deed that is there")


def is_held(kernel, sizes, one, other):
    """Whether a deed is held ahead of another one."""
    try:
        weft = Weft(kernel, sizes)
    except TooMany:
        # What is wrong with the deeds is told ahead of that.
        check_deed(kernel, sizes, one)
        check_deed(kernel, sizes, other)
        raise
    check_deed(kernel, sizes, one)
    check_deed(kernel, sizes, other)
    return weft.is_ahead(one, other)


def weft_for_order(kernel, sizes, order):
    """The weft; what is no list for an order is told ahead of TooMany."""
    try:
        return Weft(kernel, sizes)
    except TooMany:
        if not is_listing(order):
            raise BadOrder(None)
        raise


def weft_for_ways(kernel, sizes, ways):
    """The weft; what is no tuple of pairs for ways is told ahead of TooMany. Raises BadWays for no ways."""
    try:
        weft = Weft(kernel, sizes)
    except TooMany:
        if not isinstance(ways, tuple):
            raise BadWays("ways are a tuple")
        raise
    if not are_ways(weft, ways):
        raise BadWays("this is no ascending tuple of ways of loose pairs")
    return weft


def are_ways(weft, thing):
    """Whether thing is an ascending tuple of ways, each of a loose pair and none of these twice."""
    if not isinstance(thing, tuple):
        return False
    taken = {}
    for way in thing:
        if not is_tuple_of(way, 2) or not all([is_instance(weft.kernel, deed) for deed in way]):
            return False
        one, other = way
        if other not in weft.mates.get(one, []) or way in taken or (other, one) in taken:
            return False
        taken[way] = True
    return is_rising(thing)


def settled_by(weft, order):
    """The ways of all loose pairs as an order does them, and behind it the text order."""
    weft.fresh_run().go(order)
    places = {}
    # What is surely an order is done once more, deed by deed: a run keeps no order itself.
    again = weft.fresh_run()
    for pair in order:
        places[again.step(pair)] = len(places)
    for block in again.blocks:
        pair = again.first_able(block)
        while pair is not None:
            places[again.step(pair)] = len(places)
            pair = again.first_able(block)
    ways = [(one, other) if places[one] < places[other] else (other, one) for one, other in weft.loose]
    return tuple(sorted(ways))


def settled(kernel, sizes, order):
    """The ways of all loose pairs as the order does them."""
    return settled_by(weft_for_order(kernel, sizes, order), order)


def order_of(kernel, sizes, ways):
    """The order in which always the least lane goes on that the ways let; None if it does not come to the end."""
    return order_along(weft_for_ways(kernel, sizes, ways), ways)


def order_along(weft, ways):
    """As order_of, of what are surely ways."""
    firsts = {}
    for one, other in ways:
        firsts.setdefault(other, []).append(one)
    run = weft.fresh_run()
    done = {}
    found = []
    pair = next_pair(run, firsts, done)
    while pair is not None:
        done[run.step(pair)] = True
        found.append(pair)
        pair = next_pair(run, firsts, done)
    return found if run.end() == "done" else None


def next_pair(run, firsts, done):
    """The least block and lane that can go on, and whose next deed waits for no first one of a way."""
    for pair in run.lists:
        if run.is_able(pair) and all([one in done for one in firsts.get(run.next_of(pair), [])]):
            return pair
    return None


def links_of(weft, ways):
    """For each deed those that stand behind it: by ways, and what it is held ahead of."""
    found = {deed: weft.held_next(deed) for deed in weft.spots}
    for one, other in ways:
        found[one].append(other)
    return found


def ring_of(kernel, sizes, ways):
    """A ring of deeds each of which is held ahead of the next one or makes a way with it; None if there is none."""
    weft = weft_for_ways(kernel, sizes, ways)
    links = links_of(weft, ways)
    closed = {}
    for start in links:
        found = None if start in closed else ring_from(start, links, closed)
        if found is not None:
            return found
    return None


def ring_from(start, links, closed):
    """A ring that is come to from a deed, None if there is none; closed are deeds from which there is none."""
    path = [start]
    spots = {start: 0}
    left = [list(links[start])]
    while path:
        if not left[-1]:
            left.pop()
            deed = path.pop()
            spots.pop(deed)
            closed[deed] = True
            continue
        later = left[-1].pop()
        if later in spots:
            return tuple(path[spots[later]:])
        if later not in closed:
            spots[later] = len(path)
            path.append(later)
            left.append(list(links[later]))
    return None


def is_ring_of(kernel, sizes, ways, thing):
    """Whether thing is such a ring of the ways."""
    weft = weft_for_ways(kernel, sizes, ways)
    if not isinstance(thing, tuple) or len(thing) < 2:
        return False
    if not all([is_instance(kernel, deed) and deed in weft.spots for deed in thing]):
        return False
    for at, deed in enumerate(thing):
        if not weft.is_ahead(thing[at - 1], deed) and (thing[at - 1], deed) not in ways:
            return False
    return True


def journal(kernel, sizes, order):
    """The written ways of an order: the least record of its outcome."""
    weft = weft_for_order(kernel, sizes, order)
    ways = settled_by(weft, order)
    whole = Order(weft, weft.loose)
    numbered = [(whole.numbers[one], whole.numbers[other]) for one, other in ways]
    return whole.written(numbered, whole.with_ways(ways))


def many_outcomes(kernel, sizes):
    """How many outcomes the orders have."""
    weft = Weft(kernel, sizes)
    return len(Order(weft, weft.loose).settlements())


def outcomes(kernel, sizes):
    """The journals of all outcomes, ascending."""
    weft = Weft(kernel, sizes)
    whole = Order(weft, weft.loose)
    return sorted([whole.written(ways, reach) for ways, reach in whole.settlements()])


def is_like(thing, told):
    """Whether thing is a dict with just the keys and values of a dict that is told, True never standing for 1."""
    if not has_just_keys(thing, list(told)):
        return False
    return all([not has_bool(thing[key]) and thing[key] == told[key] for key in told])


def is_outcome(kernel, sizes, thing):
    """Whether thing is the outcome of some order."""
    weft = Weft(kernel, sizes)
    if not is_tuple_of(thing, 3) or not isinstance(thing[0], str) or thing[0] != "done":
        return False
    if not isinstance(thing[1], dict) or not isinstance(thing[2], dict):
        return False
    ways = ways_told(weft, thing[1], thing[2])
    order = None if ways is None else order_along(weft, ways)
    if order is None:
        return False
    run = weft.fresh_run()
    run.go(order)
    _, met, cells = run.outcome()
    return is_like(thing[1], met) and is_like(thing[2], cells)
