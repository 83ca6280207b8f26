"""Sayings by a seed, and what they mean when all numbers up to a bound are gone through."""

import itertools


def made_saying(r, rows, names, bound, most):
    """A saying of so many rows over the names; bound names are taken from bound."""
    if rows <= 1:
        if not names:
            return ("and", ())
        a, b = r.sample(list(names) + [None], 2)
        return ("row", a, b, r.randint(-most, most))
    k = r.random()
    if bound and k < 0.35:
        own = tuple(bound[:r.randint(1, min(2, len(bound)))])
        inner = made_saying(r, rows, list(names) + list(own), bound[len(own):], most)
        return (r.choice(("some", "all")), own, inner)
    if k < 0.45:
        return ("not", made_saying(r, rows, names, bound, most))
    count = r.randint(2, min(4, rows))
    cuts = sorted(r.sample(range(1, rows), count - 1))
    sizes = [high - low for low, high in zip([0] + cuts, cuts + [rows])]
    return (r.choice(("and", "or")), tuple(made_saying(r, size, names, bound, most) for size in sizes))


def bound_names(saying):
    word = saying[0]
    if word == "row":
        return []
    if word == "not":
        return bound_names(saying[1])
    if word in ("some", "all"):
        return list(saying[1]) + bound_names(saying[2])
    return [name for part in saying[1] for name in bound_names(part)]


def greatest(saying):
    word = saying[0]
    if word == "row":
        return abs(saying[3])
    if word == "not":
        return greatest(saying[1])
    if word in ("some", "all"):
        return greatest(saying[2])
    return max([greatest(part) for part in saying[1]], default=0)


def goes_through(saying, point, most):
    """Whether the saying holds at a point with numbers up to most, by the cut-off of point [21]."""
    word = saying[0]
    if word == "row":
        return point.get(saying[1], 0) - point.get(saying[2], 0) <= saying[3]
    if word == "and":
        return all(goes_through(part, point, most) for part in saying[1])
    if word == "or":
        return any(goes_through(part, point, most) for part in saying[1])
    if word == "not":
        return not goes_through(saying[1], point, most)
    more = most + (greatest(saying) + 1) * 2 ** len(bound_names(saying))
    each = any if word == "some" else all
    return each(
        goes_through(saying[2], {**point, **dict(zip(saying[1], numbers))}, more)
        for numbers in itertools.product(range(-more, more + 1), repeat=len(saying[1])))


def points_up_to(names, most):
    for numbers in itertools.product(range(-most, most + 1), repeat=len(names)):
        yield dict(zip(names, numbers))


def keeps(system, point):
    return all(point.get(a, 0) - point.get(b, 0) <= c for a, b, c in system)
