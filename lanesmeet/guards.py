"""What smalls, forms and guards stand for: numbers, and rows over the names of forms."""

from lanesmeet.differences import turned


class Sight:
    """What a lane knows: the width, its own numbers, those of the loops around, and the rests."""

    def __init__(self, width, lane, turns, rests):
        self.width = width
        self.lane = lane
        self.turns = turns
        self.rests = rests


class Ground:
    """What forms stand for at given sizes: the block, the numbers of the loops around, and the tiles."""

    def __init__(self, block, turns, tiles):
        self.block = block
        self.turns = turns
        self.tiles = tiles


def small_number(small, sight):
    """The number of a small."""
    word = small[0]
    if word == "is":
        return small[1]
    if word == "lane":
        return sight.lane[small[1]]
    if word == "turn":
        return sight.turns[small[1]]
    if word == "rest":
        return sight.rests[small[1]]
    left = small_number(small[1], sight)
    if word == "over":
        return left // small[2]
    if word == "rest of":
        return left % small[2]
    right = small_number(small[2], sight)
    if word == "plus":
        return left + right
    return left - right if word == "minus" else left * right


def form_number(form, ground):
    """The number of a large form."""
    word, name, more = form
    if word == "none":
        return more
    if word == "block":
        return ground.block[name] + more
    return (ground.turns[name] if word == "turn" else ground.tiles[name]) + more


def spot_number(spot, sight, ground):
    """The number of a spot."""
    return sight.width * form_number(spot[0], ground) + small_number(spot[1], sight)


def small_holds(guard, sight):
    """Whether a guard about two smalls holds."""
    left = small_number(guard[1], sight)
    right = small_number(guard[3], sight)
    if guard[2] == "less":
        return left < right
    return left <= right if guard[2] == "atmost" else left == right


def guard_holds(guard, sight, ground):
    """Whether a guard holds."""
    word = guard[0]
    if word == "small":
        return small_holds(guard, sight)
    if word == "order":
        return spot_number(guard[1], sight, ground) <= spot_number(guard[2], sight, ground)
    if word == "within":
        size = sight.width * ground.tiles[guard[2]] + sight.rests[guard[2]]
        return 0 <= spot_number(guard[1], sight, ground) < size
    if word == "not":
        return not guard_holds(guard[1], sight, ground)
    if guard_holds(guard[1], sight, ground) == (word == "or"):
        return word == "or"
    return guard_holds(guard[2], sight, ground)


def form_name(form):
    """The name of a form in rows, None for a bare number."""
    return None if form[0] == "none" else f"{form[0]} {form[1]}"


def tied(one, other, most):
    """The row that says that form one less form other is at most most; its names may be equal."""
    return form_name(one), form_name(other), most - one[2] + other[2]


def without_plain(rows):
    """The rows but for those with one name on both sides; None if one of these is not kept."""
    for a, b, c in rows:
        if a == b and c < 0:
            return None
    return [row for row in rows if row[0] != row[1]]


def told_parts(parts):
    """The parts that rows with one name on both sides do not strike, without these rows."""
    bare = [without_plain(rows) for rows in parts]
    return [rows for rows in bare if rows is not None]


def order_row(guard, sight):
    """The row of an "order"."""
    left = small_number(guard[1][1], sight)
    right = small_number(guard[2][1], sight)
    return tied(guard[1][0], guard[2][0], (right - left) // sight.width)


def within_rows(guard, sight):
    """The two rows of a "within": from 0 on, and below the size."""
    form, small = guard[1]
    number = small_number(small, sight)
    tiles = ("tiles", guard[2], 0)
    low = tied(("none", None, 0), form, number // sight.width)
    return low, tied(form, tiles, (sight.rests[guard[2]] - number - 1) // sight.width)


def each_with_each(parts, others):
    """All parts, each with each of the others behind it."""
    return [rows + more for rows in parts for more in others]


def guard_parts(guard, truth, sight):
    """The parts, lists of rows, of a guard (truth True) or of its contrary: just one holds whenever it does."""
    word = guard[0]
    if word == "not":
        return guard_parts(guard[1], not truth, sight)
    if word == "small":
        return [[]] if small_holds(guard, sight) == truth else []
    if word == "order":
        row = order_row(guard, sight)
        return told_parts([[row if truth else turned(row)]])
    if word == "within":
        low, high = within_rows(guard, sight)
        return told_parts([[low, high]] if truth else [[turned(low)], [turned(high)]])
    first = guard_parts(guard[1], truth, sight)
    second = guard_parts(guard[2], truth, sight)
    if truth == (word == "and"):
        return each_with_each(first, second)
    # One of both is enough; where the first one is, the second one is not asked, so that no two parts hold at once.
    return first + each_with_each(guard_parts(guard[1], not truth, sight), second)
