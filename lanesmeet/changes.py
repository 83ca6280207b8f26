"""Changes of a nest: what comes of them, and whether they turn deeds that cross."""

from lanesmeet.cases import DEEDS
from lanesmeet.crossings import Search, can_cross, equal_turns, less_turn, turn_pair
from lanesmeet.errors import BadBody, BadChange
from lanesmeet.moves import Changer
from lanesmeet.nests import check_nest, items_of
from lanesmeet.parts import NOTHING, plain_spot
from lanesmeet.plain import is_between, is_number
from lanesmeet.rewriting import end_of, with_body

STILL = (("none", None, 0), ("is", 0))


def row_with(nest, point):
    """The items of the block in which a point is that of an item, and its index there; None if there is no such."""
    items = items_of(nest)
    for seat in items:
        heads = [item[0] for item in items[seat]]
        if point in heads:
            return items[seat], heads.index(point)
    return None


def is_long(nest, item):
    """Whether an item is a loop."""
    return nest.statements[item[0]][0] == "long"


def has_partner(nest, row, at, word):
    """Whether the items of a row, from an index on, are what a swap, an exchange or a join needs."""
    if word == "exchange":
        inner = items_of(nest)[(row[at][0], None)] if is_long(nest, row[at]) else []
        return len(inner) == 1 and is_long(nest, inner[0])
    if at + 1 >= len(row):
        return False
    if word == "swap":
        return True
    one = nest.statements[row[at][0]]
    other = nest.statements[row[at + 1][0]]
    return one[0] == "long" and other[0] == "long" and one[2:4] == other[2:4]


def is_change(nest, thing):
    """Whether thing is a change by its form, and fits the items; what comes of it is not asked."""
    if not isinstance(thing, tuple) or not 2 <= len(thing) <= 3 or not isinstance(thing[0], str):
        return False
    word = thing[0]
    found = row_with(nest, thing[1]) if is_number(thing[1]) else None
    if found is None:
        return False
    row, at = found
    if word in ("swap", "exchange", "join"):
        return len(thing) == 2 and has_partner(nest, row, at, word)
    if word not in ("part", "shift") or len(thing) != 3 or not is_long(nest, row[at]):
        return False
    if word == "shift":
        return is_number(thing[2])
    return is_between(thing[2], 1, len(items_of(nest)[(thing[1], None)]) - 1)


def drawn(nest, change):
    """A triple: the nest that comes of a change, the old points of its statements, and the changer."""
    check_nest(nest)
    if not is_change(nest, change):
        raise BadChange("this is no change of the nest")
    changer = Changer(nest, change)
    draft = changer.whole_draft()
    try:
        found = with_body(nest, draft.statements)
    except BadBody:
        raise BadChange("what comes of it is no nest by its limits")
    return found, draft.olds, changer


def target_for(nest, old, turns):
    """The target at an old point, turns being the forms of the old turns around it."""
    return old, (STILL, STILL), (NOTHING, NOTHING), tuple([plain_spot(form) for form in turns])


def changed(nest, change):
    """The nest that comes of a change, and the map of the nest and it."""
    found, olds, changer = drawn(nest, change)
    deeds = {}
    for point, old in enumerate(olds):
        if old is not None and nest.statements[old][0] in DEEDS:
            deeds[point] = target_for(nest, old, [changer.old_turn(outer) for _, _, outer in nest.loops[old]])
    return found, (deeds, {})


def deeds_between(nest, first, end):
    """The points of deeds from first on, below end."""
    return [point for point in range(first, end) if nest.statements[point][0] in DEEDS]


def item_end(nest, item):
    """The first point behind an item."""
    return end_of(nest, item[-1])


def turned_lots(nest, change):
    """A triple: the points of first deeds, those of second ones, and the rows with which a change turns them."""
    word, point = change[:2]
    row, at = row_with(nest, point)
    end = item_end(nest, row[at])
    rows = equal_turns([loop[1] for loop in nest.loops[point]])
    if word == "swap":
        later = deeds_between(nest, end, item_end(nest, row[at + 1]))
        return deeds_between(nest, point, end), later, rows
    name = nest.statements[point][1]
    if word == "exchange":
        inner = deeds_between(nest, point, end)
        first, second = turn_pair(nest.statements[point + 1][1])
        return inner, inner, rows + [less_turn(name), (second, first, -1)]
    if word == "part":
        start = items_of(nest)[(point, None)][change[2]][0]
        return deeds_between(nest, start, end), deeds_between(nest, point, start), rows + [less_turn(name)]
    later = deeds_between(nest, end, item_end(nest, row[at + 1]))
    first, _ = turn_pair(name)
    _, second = turn_pair(nest.statements[row[at + 1][0]][1])
    return deeds_between(nest, point, end), later, rows + [(second, first, -1)]


def spoil_search(nest, change):
    """The search for deeds that cross and are turned by a change."""
    drawn(nest, change)
    if change[0] == "shift":
        return Search(nest, [])
    ones, others, rows = turned_lots(nest, change)
    return Search(nest, [(one, other, rows) for one in ones for other in others if can_cross(nest, one, other)])


def spoil(nest, change):
    """Sizes and two deeds that cross and are turned by a change, None if there are none at any sizes."""
    return spoil_search(nest, change).example()


def spoil_region(nest, change):
    """The region of the sizes at which a change turns two deeds that cross."""
    return spoil_search(nest, change).region()
