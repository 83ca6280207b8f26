"""Papers that are lists of rings: one for each of many systems."""

from lanesmeet.differences import is_ring_of
from lanesmeet.plain import is_listing
from lanesmeet.ways import first_ring


def rings_of(systems):
    """The first ring of each of the systems."""
    known = {}
    found = []
    for system in systems:
        key = tuple(system)
        if key not in known:
            known[key] = first_ring(system)
        found.append(list(known[key]))
    return found


def are_rings(systems, thing):
    """Whether thing is a list of a ring for each of the systems, in order."""
    if not is_listing(thing) or len(thing) != len(systems):
        return False
    return all([is_ring_of(system, own) for system, own in zip(systems, thing)])
