"""Two orders that show a race by their unlike outcomes."""

from lanesmeet.beside import instance_key
from lanesmeet.errors import BadRace, StandsStill
from lanesmeet.kernels import check_kernel
from lanesmeet.machine import Run
from lanesmeet.races import is_race


def spots_behind(run, block, instance):
    """For each lane of a block how much of its list goes up to its last meeting ahead of the instance's step."""
    limit = instance_key(run.kernel, instance)
    found = {}
    for lane in run.lanes:
        spot = 0
        for at, own in enumerate(run.lists[(block, lane)]):
            if run.word_of(own) == "meet" and instance_key(run.kernel, own) < limit:
                spot = at + 1
        found[(block, lane)] = spot
    return found


def come_through(run, instance):
    """Goes on in the instance's block by the text order until all have come through what meets ahead of it."""
    block = instance[1]
    limits = spots_behind(run, block, instance)
    found = []
    while any([run.spots[pair] < limits[pair] for pair in limits]):
        pair = run.first_able(block)
        run.step(pair)
        found.append(pair)
    return found


def come_to(run, instance):
    """Does the deeds of the instance's lane ahead of it."""
    pair = instance[1:3]
    found = []
    while run.next_of(pair) != instance:
        run.step(pair)
        found.append(pair)
    return found


def finish_from(run):
    """Goes on by the text order to the end; returns the pairs."""
    found = []
    for block in run.blocks:
        found.extend(run.finish_block(block))
    return found


def two_orders(kernel, thing):
    """Two orders that do the two instances of a race one behind the other, this way and that way."""
    check_kernel(kernel)
    if not is_race(kernel, thing):
        raise BadRace("this is no race of the kernel")
    sizes, one, other = thing
    check_moves(kernel, sizes)
    run = Run(kernel, sizes)
    own = sorted(set([one[1], other[1]]))
    ahead = []
    for block in run.blocks:
        if block not in own:
            ahead.extend(run.finish_block(block))
    for block in own:
        ahead.extend(come_through(run, one if block == one[1] else other))
    ahead.extend(come_to(run, one))
    ahead.extend(come_to(run, other))
    run.step(one[1:3])
    run.step(other[1:3])
    rest = finish_from(run)
    return ahead + [one[1:3], other[1:3]] + rest, ahead + [other[1:3], one[1:3]] + rest


def check_moves(kernel, sizes):
    """Raises StandsStill if the kernel is parted at the sizes: then some block stands still by every order."""
    run = Run(kernel, sizes)
    run.finish()
    if run.end() != "done":
        raise StandsStill("the kernel is parted at these sizes")
