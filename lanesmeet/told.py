"""Told sums: polys, each where the rows of its system are kept."""

from lanesmeet.binomials import check_values
from lanesmeet.counting import Tally, counted
from lanesmeet.differences import check_system, is_point_of, is_system
from lanesmeet.errors import BadNames, BadSum, NotBounded, TooMany
from lanesmeet.fields import places_of, zone_by
from lanesmeet.unlike import first_unlike
from lanesmeet.plain import is_listing, is_rising, is_tuple_of
from lanesmeet.polys import MOST_OVER, greatest_over, is_poly, poly_names, worth_of
from lanesmeet.ways import names_of


def is_sum(thing):
    """Whether thing is a told sum."""
    if not is_listing(thing):
        return False
    for pair in thing:
        if not is_tuple_of(pair, 2) or not is_system(pair[0]) or not is_poly(pair[1]):
            return False
    return True


def check_sum(told):
    """Raises BadSum for what is no told sum."""
    if not is_sum(told):
        raise BadSum("this is no list of pairs of a system and a poly")


def sum_names(told):
    """The names in a told sum, ascending."""
    return sorted(set([name for system, poly in told for name in names_of(system) + poly_names(poly)]))


def worth(told, values):
    """The sum of the polys of a told sum whose systems are kept at values."""
    check_sum(told)
    check_values(values, sum_names(told))
    total = 0
    for system, poly in told:
        own = {name: values[name] for name in names_of(system)}
        if is_point_of(system, own):
            total = total + worth_of(poly, values)
    return total


def check_own_names(system, names):
    """Raises BadSystem, or BadNames for what is no ascending tuple of names of the system."""
    check_system(system)
    own = names_of(system)
    if not isinstance(names, tuple) or not all([isinstance(name, str) and name in own for name in names]):
        raise BadNames("this is no tuple of names of the system")
    if not is_rising(names):
        raise BadNames("these names are not ascending")


def check_bounded(zone, names, others):
    """Raises NotBounded for the first of the names that is not told from both sides by the others and 0."""
    places = places_of(others + list(names))
    outer = list(range(len(others) + 1))
    for name in names:
        place = places[name]
        above = [other for other in outer if zone[place][other] is not None]
        below = [other for other in outer if zone[other][place] is not None]
        if not above or not below:
            raise NotBounded(name)


def points_for(system, names):
    """The told sum of how many points of the system have the values of all other names than these."""
    check_own_names(system, names)
    others = [name for name in names_of(system) if name not in names]
    zone = zone_by(list(system), places_of(others + list(names)))
    if zone is None:
        return []
    check_bounded(zone, names, others)
    tally = Tally()
    for piece, spots, poly in counted(zone, others + list(names), others):
        # A poly has no k above 12, which so many names can come to.
        if greatest_over(poly) > MOST_OVER:
            raise TooMany(MOST_OVER)
        tally.take_in(piece, spots[1:], poly, 1)
    return tally.sum_told()


def unlike_at(one, other, system):
    """A point of the system at which two told sums have unlike worths, None if there is none."""
    check_sum(one)
    check_sum(other)
    check_system(system)
    names = sorted(set(sum_names(one) + sum_names(other) + names_of(system)))
    places = places_of(names)
    zone = zone_by(list(system), places)
    if zone is None:
        return None
    terms = [(rows, poly, 1) for rows, poly in one] + [(rows, poly, -1) for rows, poly in other]
    placed = [([(places[a], places[b], c) for a, b, c in rows], poly, times) for rows, poly, times in terms]
    found = first_unlike(zone, names, placed)
    return None if found is None else {name: found[name] for name in names}
