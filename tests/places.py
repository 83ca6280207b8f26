"""Places said again in the plainest way: numbers of smalls, rows of bounds, positions of instances."""

from lanesmeet.meaning import cell_of

DEEDS = ("take", "put", "add")


def place_of(statement):
    return statement[2] if statement[0] == "take" else statement[1]


def array_at(kernel, point):
    name = place_of(kernel.statements[point])[0]
    return next(array for array in kernel.arrays if array[1] == name)


def deed_points(kernel):
    return [point for point, statement in enumerate(kernel.statements) if statement[0] in DEEDS]


def loops_at(kernel, point):
    return [kernel.statements[at] for at, side in kernel.around(point) if side is None]


def number_of(small, lane, turns, rests):
    word = small[0]
    if word == "is":
        return small[1]
    if word == "lane":
        return lane[small[1]]
    if word in ("turn", "rest"):
        return (turns if word == "turn" else rests)[small[1]]
    left = number_of(small[1], lane, turns, rests)
    if word == "over":
        return left // small[2]
    if word == "rest of":
        return left % small[2]
    right = number_of(small[2], lane, turns, rests)
    return left + right if word == "plus" else left - right if word == "minus" else left * right


def knows(kernel, point, choice):
    """The lane, the numbers of short loops by names, and the rests by names of a choice."""
    shorts = [loop[1] for loop in loops_at(kernel, point) if loop[0] == "short"]
    return choice[0], dict(zip(shorts, choice[1])), dict(zip([name for name, _ in kernel.sizes], choice[2]))


def name_of(form):
    return None if form[0] == "none" else f"{form[0]} {form[1]}"


def bounds_of(kernel, point, choice, window=None):
    """For each axis the two rows (names may be equal), or truths, that its position is in the window."""
    array = array_at(kernel, point)
    lane, turns, rests = knows(kernel, point, choice)
    found = []
    for axis, (part, count) in enumerate(zip(place_of(kernel.statements[point])[1], array[2])):
        low, high = window[axis] if window else (0, 0)
        if array[0] == "shared":
            number = number_of(part, lane, turns, rests)
            found.append((number >= 0, number <= count - 1))
            continue
        form, small = part
        number = number_of(small, lane, turns, rests) + kernel.width * form[2]
        # low <= width * name + number, and that <= width * tiles + rest - 1 - high.
        found.append(((None, name_of(form), (number - low) // kernel.width),
                      (name_of(form), "tiles " + count, (rests[count] - 1 - high - number) // kernel.width)))
    return found


def settled(bound, truth):
    """True, False, or the row that says that the bound is kept (or, for a truth of False, that it is not)."""
    if isinstance(bound, bool):
        return bound == truth
    a, b, c = bound if truth else (bound[1], bound[0], -bound[2] - 1)
    return c >= 0 if a == b else (a, b, c)


def beyond_rows(bounds):
    """The pairs of a part (axis, side) and its rows, parts that cannot be left out."""
    found = []
    for axis in range(len(bounds)):
        for side in (0, 1):
            rows = [settled(bound, True) for earlier in bounds[:axis] for bound in earlier]
            rows.append(settled(bounds[axis][side], False))
            if False not in rows:
                found.append(((axis, side), [row for row in rows if row is not True]))
    return found


def positions_of(kernel, sizes, instance):
    """The positions of an instance's cell, axis by axis, and the sizes or counts there."""
    array = array_at(kernel, instance[0])
    cell = cell_of(kernel, sizes, instance)
    if array[0] == "shared":
        return list(cell[1]), list(array[2])
    ends = [kernel.width * sizes[name][0] + sizes[name][1] for name in array[2]]
    return [kernel.width * tile + offset for tile, offset in cell[1]], ends


def beyond_axes(kernel, sizes, instance):
    return [axis for axis, (at, end) in enumerate(zip(*positions_of(kernel, sizes, instance))) if not 0 <= at < end]


def sizes_by(kernel, rests, numbers):
    return {name: (numbers["tiles " + name], rest) for (name, _), rest in sorted(zip(kernel.sizes, rests))}


def instance_by(kernel, point, choice, numbers, mark=""):
    shorts = list(choice[1])
    turns = tuple(numbers["turn " + loop[1] + mark] if loop[0] == "long" else shorts.pop(0)
                  for loop in loops_at(kernel, point))
    return point, (numbers["block 0" + mark], numbers["block 1" + mark]), choice[0], turns
