"""The forms of what a kernel is made of: smalls, large forms, places, guards, statements."""

from lanesmeet.differences import is_row
from lanesmeet.plain import is_between, is_number, is_rising, is_tuple_of

LETTERS = "abcdefghijklmnopqrstuvwxyz"
WIDEST = 8


def is_word(thing):
    """Whether thing is a string of 1 to 8 letters a to z."""
    return isinstance(thing, str) and 1 <= len(thing) <= 8 and all([letter in LETTERS for letter in thing])


def word_of(thing):
    """The word at the head of a tuple, None if there is none."""
    if not isinstance(thing, tuple) or not thing or not isinstance(thing[0], str):
        return None
    return thing[0]


def is_small(thing):
    """Whether thing is a small expression by its form."""
    word = word_of(thing)
    if word in ("plus", "minus", "times"):
        return len(thing) == 3 and is_small(thing[1]) and is_small(thing[2])
    if word in ("over", "rest of"):
        return len(thing) == 3 and is_small(thing[1]) and is_between(thing[2], 1, 64)
    if word is None or len(thing) != 2:
        return False
    if word == "is":
        return is_number(thing[1])
    if word == "lane":
        return is_between(thing[1], 0, 1)
    return word in ("turn", "rest") and is_word(thing[1])


def is_form(thing):
    """Whether thing is a large form by its form."""
    if not is_tuple_of(thing, 3) or not is_number(thing[2]):
        return False
    word = word_of(thing)
    if word == "none":
        return thing[1] is None
    if word == "block":
        return is_between(thing[1], 0, 1)
    return word in ("turn", "tiles") and is_word(thing[1])


def is_spot(thing):
    """Whether thing is a pair of a large form and a small."""
    return is_tuple_of(thing, 2) and is_form(thing[0]) and is_small(thing[1])


def is_place(thing):
    """Whether thing is an array's name and a tuple of spots or smalls."""
    if not is_tuple_of(thing, 2) or not is_word(thing[0]) or not isinstance(thing[1], tuple):
        return False
    return all([is_spot(part) or is_small(part) for part in thing[1]])


def is_guard(thing):
    """Whether thing is a guard by its form."""
    word = word_of(thing)
    if word == "not":
        return len(thing) == 2 and is_guard(thing[1])
    if word == "small":
        return (len(thing) == 4 and is_small(thing[1]) and is_small(thing[3])
                and isinstance(thing[2], str) and thing[2] in ("less", "atmost", "same"))
    if word is None or len(thing) != 3:
        return False
    if word in ("and", "or"):
        return is_guard(thing[1]) and is_guard(thing[2])
    if word == "order":
        return is_spot(thing[1]) and is_spot(thing[2])
    return word == "within" and is_spot(thing[1]) and is_word(thing[2])


def is_let(thing):
    """Whether thing is a let by its form."""
    if not is_tuple_of(thing, 4) or not is_word(thing[1]) or not is_word(thing[2]):
        return False
    names = thing[3]
    return isinstance(names, tuple) and len(names) <= 4 and all([is_word(name) for name in names])


def is_loop(thing):
    """Whether thing is a loop by its form; what stands in its block is not asked."""
    if thing[0] == "short":
        return (is_tuple_of(thing, 4) and is_word(thing[1]) and is_between(thing[2], 1, 8)
                and isinstance(thing[3], tuple))
    return (is_tuple_of(thing, 5) and is_word(thing[1]) and is_form(thing[2]) and is_form(thing[3])
            and isinstance(thing[4], tuple))


def is_statement(thing):
    """Whether thing is a statement by its form; what stands in its blocks is not asked."""
    word = word_of(thing)
    if word == "take":
        return len(thing) == 3 and is_word(thing[1]) and is_place(thing[2])
    if word in ("put", "add"):
        return len(thing) == 3 and is_place(thing[1]) and is_word(thing[2])
    if word == "let":
        return is_let(thing)
    if word == "meet":
        return len(thing) == 1
    if word in ("short", "long"):
        return is_loop(thing)
    return (word == "if" and len(thing) == 4 and is_guard(thing[1])
            and isinstance(thing[2], tuple) and isinstance(thing[3], tuple))


def blocks_in(statement):
    """The blocks of a statement, in order."""
    word = statement[0]
    if word == "short":
        return (statement[3],)
    if word == "long":
        return (statement[4],)
    if word == "if":
        return statement[2], statement[3]
    return ()


def place_of(statement):
    """The place of a take, put or add, None for other statements."""
    word = statement[0]
    if word == "take":
        return statement[2]
    return statement[1] if word in ("put", "add") else None


def are_rests(thing, width):
    """Whether thing is an ascending tuple of one or more rests of a width."""
    if not isinstance(thing, tuple) or not thing:
        return False
    return all([is_between(rest, 0, width - 1) for rest in thing]) and is_rising(thing)


def are_sizes(thing, width):
    """Whether thing is a tuple of sizes for a width."""
    if not isinstance(thing, tuple) or len(thing) > 3:
        return False
    for size in thing:
        if not is_tuple_of(size, 2) or not is_word(size[0]) or not are_rests(size[1], width):
            return False
    return len(set([name for name, _ in thing])) == len(thing)


def are_promises(thing, sizes):
    """Whether thing is a tuple of promises about the sizes."""
    if not isinstance(thing, tuple) or len(thing) > 8:
        return False
    names = [None] + [name for name, _ in sizes]
    for row in thing:
        if not is_row(row) or row[0] not in names or row[1] not in names:
            return False
    return True


def are_sizes_at(sizes, promises, thing):
    """Whether thing is a dict from just the names of the sizes to (tiles, rest) that keeps the promises."""
    if not isinstance(thing, dict) or len(thing) != len(sizes):
        return False
    for name, rests in sizes:
        if name not in thing or not is_tuple_of(thing[name], 2):
            return False
        tiles, rest = thing[name]
        if not is_number(tiles) or tiles < 0 or not is_number(rest) or rest not in rests:
            return False
    for a, b, c in promises:
        left = 0 if a is None else thing[a][0]
        right = 0 if b is None else thing[b][0]
        if left - right > c:
            return False
    return True


def all_rests(sizes):
    """All tuples of rests, one for each size, ascending."""
    found = [()]
    for _, rests in sizes:
        found = [before + (rest,) for before in found for rest in rests]
    return found


def tiles_name(name):
    """The name for the tiles of a size in rows; None stays."""
    return None if name is None else "tiles " + name


def promise_rows(promises):
    """The promises as rows over the names for tiles."""
    return [(tiles_name(a), tiles_name(b), c) for a, b, c in promises]
