"""Sayings about whole numbers, with "some" and "all"."""

from lanesmeet.cuts import named_rows, truth_at, zones_of
from lanesmeet.differences import is_system
from lanesmeet.errors import BadPoint, BadSaying, BadSystems, BadTerms, NotBounded
from lanesmeet.plain import has_just_keys, is_listing, is_number, is_tuple_of
from lanesmeet.ways import names_of
from lanesmeet.wording import bound_in, fits, free_in, is_free_name, one_of, with_terms
from lanesmeet.zones import some_numbers


def is_saying(thing):
    """Whether thing is a saying."""
    return fits(thing, ())


def check_saying(saying):
    """Raises BadSaying for what is no saying."""
    if not is_saying(saying):
        raise BadSaying("this is no saying")


def free_names(saying):
    """The free names of the saying, ascending."""
    check_saying(saying)
    return tuple(free_in(saying))


def check_point(saying, point):
    """Raises BadPoint for what is no point of the free names of the saying."""
    if not has_just_keys(point, free_in(saying)):
        raise BadPoint("this is no dict from just the free names")
    for name in point:
        if not is_number(point[name]):
            raise BadPoint("a free name has no number")


def holds(saying, point):
    """Whether the saying holds at the point."""
    check_saying(saying)
    check_point(saying, point)
    return truth_at(saying, point)


def is_term(thing):
    """Whether thing is a pair of a free name or None, and a number."""
    if not is_tuple_of(thing, 2):
        return False
    return (thing[0] is None or is_free_name(thing[0])) and is_number(thing[1])


def put_terms(saying, terms):
    """The saying with terms in the place of some of its free names."""
    check_saying(saying)
    if not isinstance(terms, dict):
        raise BadTerms("this is no dict")
    names = free_in(saying)
    for name in terms:
        if not isinstance(name, str) or name not in names or not is_term(terms[name]):
            raise BadTerms("this is no term for a free name")
    return with_terms(saying, terms)


def saying_of(systems):
    """The saying that holds where the rows of one of the systems are kept."""
    if not is_listing(systems):
        raise BadSystems(None)
    for at, system in enumerate(systems):
        if not is_system(system) or not all([is_free_name(name) for name in names_of(system)]):
            raise BadSystems(at)
    return one_of(systems)


def systems_of(saying):
    """Systems one of which has all its rows kept exactly where the saying holds."""
    check_saying(saying)
    names = free_in(saying)
    return [named_rows(zone, names) for zone in zones_of(saying, names)]


def greatest_number(saying):
    """The greatest number of the rows of the saying, a minus left out, 0 without rows."""
    word = saying[0]
    if word == "row":
        return abs(saying[3])
    if word == "not":
        return greatest_number(saying[1])
    if word in ("some", "all"):
        return greatest_number(saying[2])
    return max([greatest_number(part) for part in saying[1]], default=0)


def reach(saying):
    """A number such that the saying, if it holds anywhere, does so at numbers up to it."""
    check_saying(saying)
    return len(free_in(saying)) * (greatest_number(saying) + 1) << len(bound_in(saying))


def first_point(saying):
    """The point with the least sum at which the saying holds, None if it holds nowhere."""
    check_saying(saying)
    names = free_in(saying)
    zones = zones_of(saying, names)
    for at, name in enumerate(names):
        for zone in zones:
            if zone[0][at + 1] is None:
                raise NotBounded(name)
    if not zones:
        return None
    lows = [[-bound for bound in zone[0][1:]] for zone in zones]
    _, numbers = min([(sum(low), low) for low in lows])
    return {name: numbers[at] for at, name in enumerate(names)}


def names_of_both(one, other):
    """The free names of two sayings, ascending."""
    return sorted(set(free_in(one) + free_in(other)))


def is_within(one, other):
    """Whether the other saying holds wherever the one does."""
    check_saying(one)
    check_saying(other)
    return not zones_of(("and", (one, ("not", other))), names_of_both(one, other))


def parting_point(one, other):
    """A point at which just one of the sayings holds, None if they are alike."""
    check_saying(one)
    check_saying(other)
    names = names_of_both(one, other)
    zones = zones_of(("and", (one, ("not", other))), names) or zones_of(("and", (other, ("not", one))), names)
    if not zones:
        return None
    numbers = some_numbers(zones[0])
    return {name: numbers[at + 1] for at, name in enumerate(names)}
