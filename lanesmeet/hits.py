"""Lots of gaps, and the fewest gaps that hit all of them."""

from lanesmeet.errors import BadLots, BadMany, BadNumber
from lanesmeet.plain import has_just_keys, is_between, is_listing, is_rising, is_tuple_of

MOST_GAPS = 16
MOST_LOTS = 400


def is_gap_tuple(many, thing):
    """Whether thing is an ascending tuple of different gaps."""
    if not isinstance(thing, tuple):
        return False
    return all([is_between(gap, 0, many - 1) for gap in thing]) and is_rising(thing)


def check_lots(many, lots):
    """Raises BadMany for no number of gaps, BadLots for no list of lots."""
    if not is_between(many, 1, MOST_GAPS):
        raise BadMany("there are from 1 to 16 gaps")
    if not is_listing(lots) or len(lots) > MOST_LOTS:
        raise BadLots(None)
    for at, lot in enumerate(lots):
        if not is_gap_tuple(many, lot):
            raise BadLots(at)


def lots_without(lots, gap):
    """The lots that the gap does not hit."""
    return [lot for lot in lots if gap not in lot]


def fewest_apart(lots):
    """How many lots without common gaps are found one behind the other: so many gaps are wanted at least."""
    taken = {}
    count = 0
    for lot in lots:
        if not any([gap in taken for gap in lot]):
            taken.update({gap: True for gap in lot})
            count = count + 1
    return count


def can_hit(lots, number):
    """Whether number gaps, or fewer, hit the lots."""
    if not lots:
        return True
    shortest = min(lots, key=len)
    if not shortest or fewest_apart(lots) > number:
        return False
    for gap in shortest:
        if can_hit(lots_without(lots, gap), number - 1):
            return True
        # What hits the lots does so without this gap: it need not be looked at any more.
        lots = [tuple([other for other in lot if other != gap]) for lot in lots]
    return False


def fewest_hits(many, lots):
    """How many gaps hit the lots at least, None if none do."""
    for number in range(many + 1):
        if can_hit(lots, number):
            return number
    return None


def above(lots, gap):
    """The lots, each without the gaps up to this one."""
    return [tuple([other for other in lot if other > gap]) for lot in lots]


def first_hits(many, lots):
    """The first of the tuples of gaps that hit the lots, None if none do."""
    number = fewest_hits(many, lots)
    if number is None:
        return None
    found = []
    for gap in range(many):
        # Gaps are taken as early as the others still can do with one less, all of them behind it.
        if len(found) < number and can_hit(above(lots_without(lots, gap), gap), number - len(found) - 1):
            found.append(gap)
            lots = lots_without(lots, gap)
    return tuple(found)


def least_hits(many, lots):
    """The fewest gaps that hit the lots, of these the least ones; None if none do."""
    check_lots(many, lots)
    return first_hits(many, list(lots))


def check_number(number):
    """Raises BadNumber for what is no number from 0 to 16."""
    if not is_between(number, 0, MOST_GAPS):
        raise BadNumber("this is no number from 0 to 16")


def first_left(lots, taken):
    """The index of the shortest lot that no taken gap hits, the first of equal ones."""
    left = [(len(lot), at) for at, lot in enumerate(lots) if not any([gap in lot for gap in taken])]
    return min(left)[1]


def tree_behind(lots, taken, number):
    """A tree for number behind taken gaps; no number further gaps hit the lots."""
    index = first_left(lots, taken)
    if number == 0:
        return "end", index
    return "part", index, {gap: tree_behind(lots, taken + [gap], number - 1) for gap in lots[index]}


def hit_tree(many, lots, number):
    """A tree that shows that no number gaps, or fewer, hit the lots; None if some do."""
    check_lots(many, lots)
    check_number(number)
    return new_tree(list(lots), number)


def new_tree(lots, number):
    """As hit_tree, of what are surely lots and a number."""
    if can_hit(lots, number):
        return None
    return tree_behind(lots, [], number)


def is_hit_tree(many, lots, number, thing):
    """Whether thing is a tree for number."""
    check_lots(many, lots)
    check_number(number)
    return is_tree_behind(lots, [], number, thing)


def is_tree_behind(lots, taken, number, thing):
    """Whether thing is a tree for number behind taken gaps."""
    if not is_tuple_of(thing, 2 if number == 0 else 3) or not is_between(thing[1], 0, len(lots) - 1):
        return False
    lot = lots[thing[1]]
    if any([gap in lot for gap in taken]):
        return False
    if number == 0:
        return thing[0] == "end"
    if thing[0] != "part" or not has_just_keys(thing[2], lot):
        return False
    return all([is_tree_behind(lots, taken + [gap], number - 1, thing[2][gap]) for gap in lot])
