"""Polys: sums of numbers times choosers, products of "name over k" for different names."""

from lanesmeet.plain import is_between, is_number, is_rising, is_tuple_of

MOST_OVER = 12


def over(number, k):
    """The number over k."""
    found = 1
    for step in range(k):
        # Behind each step stands the number over step + 1, so the division leaves no rest.
        found = found * (number - step) // (step + 1)
    return found


def is_chooser(thing):
    """Whether thing is a chooser."""
    if not isinstance(thing, tuple):
        return False
    for pair in thing:
        if not is_tuple_of(pair, 2) or not isinstance(pair[0], str) or not is_between(pair[1], 1, MOST_OVER):
            return False
    return is_rising([name for name, _ in thing])


def is_poly(thing):
    """Whether thing is a poly."""
    if not isinstance(thing, dict):
        return False
    return all([is_chooser(chooser) and is_number(thing[chooser]) and thing[chooser] != 0 for chooser in thing])


def poly_names(poly):
    """The names in a poly, ascending."""
    return sorted(set([name for chooser in poly for name, _ in chooser]))


def greatest_over(poly):
    """The greatest k in a poly, 0 if there is none."""
    return max([k for chooser in poly for _, k in chooser], default=0)


def worth_of(poly, values):
    """What a poly means at values."""
    total = 0
    for chooser in poly:
        product = poly[chooser]
        for name, k in chooser:
            product = product * over(values[name], k)
        total = total + product
    return total


def plus(one, other, times):
    """The sum of a poly and times another one."""
    found = {chooser: one[chooser] for chooser in one}
    for chooser in other:
        found[chooser] = found.get(chooser, 0) + times * other[chooser]
    return {chooser: found[chooser] for chooser in found if found[chooser] != 0}


def ordered(poly):
    """The poly with ascending choosers."""
    return {chooser: poly[chooser] for chooser in sorted(poly)}


def taken_out(chooser, name):
    """A pair: the k of the name in a chooser, 0 without it, and the chooser without the name."""
    k = sum([number for own, number in chooser if own == name])
    return k, tuple([pair for pair in chooser if pair[0] != name])


def with_over(chooser, name, k):
    """The chooser, which does not have the name, with the name over k."""
    return tuple(sorted(chooser + ((name, k),))) if k else chooser


def shifted(end, k):
    """The numbers such that name + c over k, of a pair (name, c), is their sum, each times the name over its index."""
    name, c = end
    if name is None:
        return [over(c, k)]
    return [over(c, k - j) for j in range(k + 1)]


def times_over(poly, end, k):
    """The poly times name + c over k, for a pair (name, c)."""
    name = end[0]
    numbers = shifted(end, k)
    found = {}
    for chooser in poly:
        own, rest = taken_out(chooser, name)
        for at, number in enumerate(numbers):
            # A name over two k is a sum of the name over the numbers from the greater k to the sum of both.
            for m in range(max(own, at), own + at + 1):
                key = with_over(rest, name, m)
                found[key] = found.get(key, 0) + poly[chooser] * number * over(m, own) * over(own, m - at)
    return {key: found[key] for key in found if found[key] != 0}


def put_in(poly, name, end):
    """The poly with name + c, of the pair end, in the place of a name."""
    found = {}
    for chooser in poly:
        k, rest = taken_out(chooser, name)
        found = plus(found, times_over({rest: poly[chooser]}, end, k), 1)
    return found


def summed(poly, name, low, high):
    """The sum of a poly over all numbers from low to high, pairs (name, c), in the place of a name."""
    found = {}
    for chooser in poly:
        k, rest = taken_out(chooser, name)
        part = {rest: poly[chooser]}
        found = plus(found, times_over(part, (high[0], high[1] + 1), k + 1), 1)
        found = plus(found, times_over(part, low, k + 1), -1)
    return found
