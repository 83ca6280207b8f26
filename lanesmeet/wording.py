"""The forms of sayings, and the names in them."""

from lanesmeet.differences import is_row
from lanesmeet.plain import is_tuple_of

CAPITALS = "ABCDEFGHIJKLMNOPQRSTUVWXYZ"


def is_said_name(thing):
    """Whether thing can be a free or a bound name."""
    return isinstance(thing, str) and 1 <= len(thing) <= 20 and "!" not in thing


def is_bound_name(thing):
    """Whether thing can be a bound name."""
    return is_said_name(thing) and thing[0] in CAPITALS


def is_free_name(thing):
    """Whether thing can be a free name."""
    return is_said_name(thing) and thing[0] not in CAPITALS


def fits(thing, bound):
    """Whether thing is a saying within what binds the names bound."""
    if not isinstance(thing, tuple) or not thing:
        return False
    word = thing[0]
    if word == "row":
        return is_said_row(thing, bound)
    if word in ("and", "or"):
        return is_tuple_of(thing, 2) and isinstance(thing[1], tuple) and all([fits(part, bound) for part in thing[1]])
    if word == "not":
        return is_tuple_of(thing, 2) and fits(thing[1], bound)
    if word in ("some", "all"):
        return is_tuple_of(thing, 3) and binds(thing[1], bound) and fits(thing[2], bound + thing[1])
    return False


def is_said_row(thing, bound):
    """Whether thing is a row saying whose bound names are among bound."""
    if not is_row(thing[1:]):
        return False
    for name in thing[1:3]:
        if name is not None and not is_free_name(name) and name not in bound:
            return False
    return True


def binds(names, bound):
    """Whether names can be bound within what binds the names bound already."""
    if not isinstance(names, tuple) or not 1 <= len(names) <= 4:
        return False
    for at, name in enumerate(names):
        if not is_bound_name(name) or name in bound or name in names[:at]:
            return False
    return True


def names_in(saying):
    """The names that are not bound within the saying, as often as they come."""
    word = saying[0]
    if word == "row":
        return [name for name in saying[1:3] if name is not None]
    if word == "not":
        return names_in(saying[1])
    if word in ("some", "all"):
        return [name for name in names_in(saying[2]) if name not in saying[1]]
    found = []
    for part in saying[1]:
        found.extend(names_in(part))
    return found


def free_in(saying):
    """The names that are not bound within the saying, ascending."""
    return sorted(set(names_in(saying)))


def bound_in(saying):
    """The names that the saying binds, as often as it does."""
    word = saying[0]
    if word == "row":
        return []
    if word == "not":
        return bound_in(saying[1])
    if word in ("some", "all"):
        return list(saying[1]) + bound_in(saying[2])
    found = []
    for part in saying[1]:
        found.extend(bound_in(part))
    return found


def with_terms(saying, terms):
    """The saying with terms, pairs (name or None, number), in the place of the names that are keys."""
    word = saying[0]
    if word == "row":
        return row_with(saying, terms)
    if word == "not":
        return "not", with_terms(saying[1], terms)
    if word in ("some", "all"):
        return word, saying[1], with_terms(saying[2], terms)
    return word, tuple([with_terms(part, terms) for part in saying[1]])


def row_with(saying, terms):
    """The row saying with terms in the place of names."""
    _, a, b, c = saying
    if a not in terms and b not in terms:
        return saying
    first, more = terms.get(a, (a, 0))
    second, less = terms.get(b, (b, 0))
    number = c - more + less
    if first != second:
        return "row", first, second, number
    return ("and", ()) if number >= 0 else ("or", ())


def said(row):
    """The row as a saying."""
    return "row", row[0], row[1], row[2]


def one_of(systems):
    """The saying that holds where the rows of one of the systems are kept."""
    return "or", tuple([("and", tuple([said(row) for row in rows])) for rows in systems])
