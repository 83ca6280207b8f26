"""Sayings put together so that what surely holds, or surely does not, is left out."""

from lanesmeet.wording import with_terms

ALWAYS = ("and", ())
NEVER = ("or", ())


def all_of(parts):
    """The saying that all parts hold."""
    if NEVER in parts:
        return NEVER
    rest = tuple([part for part in parts if part != ALWAYS])
    return rest[0] if len(rest) == 1 else ("and", rest)


def some_of(parts):
    """The saying that one of the parts holds."""
    if ALWAYS in parts:
        return ALWAYS
    rest = tuple([part for part in parts if part != NEVER])
    return rest[0] if len(rest) == 1 else ("or", rest)


def none_of(part):
    """The saying that the part does not hold."""
    if part == ALWAYS:
        return NEVER
    return ALWAYS if part == NEVER else ("not", part)


def at_most(one, other):
    """The saying that a term, a pair (name or None, number), is at most another one."""
    number = other[1] - one[1]
    if one[0] == other[0]:
        return ALWAYS if number >= 0 else NEVER
    return "row", one[0], other[0], number


def same_term(one, other):
    """The saying that two terms are equal."""
    return all_of([at_most(one, other), at_most(other, one)])


def same_terms(ones, others):
    """The saying that the terms of two rows of as many are equal."""
    return all_of([same_term(one, other) for one, other in zip(ones, others)])


def said_with(row, terms):
    """The saying of a row with terms in the place of names."""
    return with_terms(("row", row[0], row[1], row[2]), terms)


def bound(names, saying):
    """The saying that there are numbers for the names with which the saying holds."""
    if saying in (ALWAYS, NEVER):
        return saying
    for first in range(0, len(names), 4):
        saying = ("some", tuple(names[first:first + 4]), saying)
    return saying


def simple(saying):
    """A saying that holds where this one does, without parts that surely hold, surely do not, or come twice."""
    word = saying[0]
    if word == "row":
        return saying
    if word == "not":
        return none_of(simple(saying[1]))
    if word in ("some", "all"):
        inner = simple(saying[2])
        return inner if inner in (ALWAYS, NEVER) else (word, saying[1], inner)
    parts = distinct([simple(part) for part in saying[1]])
    return all_of(parts) if word == "and" else some_of(parts)


def distinct(parts):
    """The parts, of equal ones the first."""
    found = {}
    for part in parts:
        found.setdefault(repr(part), part)
    return list(found.values())
