"""Questions about plain values that all parts ask."""


def is_number(thing):
    """Whether thing is an int that is no bool."""
    return isinstance(thing, int) and not isinstance(thing, bool)


def is_between(thing, low, high):
    """Whether thing is a number from low to high."""
    return is_number(thing) and low <= thing <= high


def is_listing(thing):
    """Whether thing may stand where a list is expected."""
    return isinstance(thing, (list, tuple))


def is_tuple_of(thing, count):
    """Whether thing is a tuple of so many items."""
    return isinstance(thing, tuple) and len(thing) == count


def is_number_tuple(thing, count):
    """Whether thing is a tuple of so many numbers."""
    return is_tuple_of(thing, count) and all([is_number(item) for item in thing])


def is_rising(things):
    """Whether each of the things is less than the next one."""
    for at in range(len(things) - 1):
        if not things[at] < things[at + 1]:
            return False
    return True


def has_bool(thing):
    """Whether thing is a bool, or a tuple with one at any depth."""
    if isinstance(thing, tuple):
        return any([has_bool(item) for item in thing])
    return isinstance(thing, bool)


def has_just_keys(thing, keys):
    """Whether thing is a dict from just these keys.

    A key that only looks alike, as True does for 1, is not taken.
    """
    if not isinstance(thing, dict) or len(thing) != len(keys):
        return False
    for key in thing:
        if has_bool(key):
            return False
    for key in keys:
        if key not in thing:
            return False
    return True
