"""Polys as they are asked for: what they mean, and their sums."""

from lanesmeet.errors import BadEnds, BadName, BadPoly, BadValues, TooMany
from lanesmeet.plain import is_number, is_tuple_of
from lanesmeet.polys import MOST_OVER, greatest_over, is_poly, ordered, poly_names, summed, worth_of


def check_poly(poly):
    """Raises BadPoly for what is no poly."""
    if not is_poly(poly):
        raise BadPoly("this is no dict from choosers to numbers other than 0")


def check_values(values, names):
    """Raises BadValues for what is no dict from names, these among them, to numbers."""
    if not isinstance(values, dict):
        raise BadValues("values are a dict")
    for name in values:
        if not isinstance(name, str) or not is_number(values[name]):
            raise BadValues("values are numbers of names")
    for name in names:
        if name not in values:
            raise BadValues("a name has no value")


def poly_at(poly, values):
    """What a poly means at values."""
    check_poly(poly)
    check_values(values, poly_names(poly))
    return worth_of(poly, values)


def is_end(name, thing):
    """Whether thing is a pair of another name or None, and a number."""
    if not is_tuple_of(thing, 2) or not is_number(thing[1]):
        return False
    return thing[0] is None or isinstance(thing[0], str) and thing[0] != name


def poly_summed(poly, name, low, high):
    """The poly that means the sum of a poly over all numbers from low to high in the place of a name."""
    check_poly(poly)
    if not isinstance(name, str):
        raise BadName("this is no name")
    if not is_end(name, low) or not is_end(name, high):
        raise BadEnds("an end is a pair of another name or None, and a number")
    found = summed(poly, name, low, high)
    if greatest_over(found) > MOST_OVER:
        raise TooMany(MOST_OVER)
    return ordered(found)
