"""Pair cases: two instances told for all sizes, and the saying that they are side by side."""

from lanesmeet.cases import DEEDS, MARK, is_point_of, marked_rows, point_cases, points_of, short_loops
from lanesmeet.folding import ALWAYS, NEVER, bound, none_of, simple
from lanesmeet.plain import is_number_tuple, is_tuple_of
from lanesmeet.wording import said

HOWS = ("same", "less 0", "more 0", "less 1", "more 1")


class Stand:
    """A step told for all sizes: its loops, its spot in the text, the numbers of its short loops, the names of turns.

    Spots of statements are odd, so that what stands between two statements has one, too.
    """

    def __init__(self, loops, spot, shorts, head, tail):
        self.loops = loops
        self.spot = spot
        self.shorts = shorts
        self.head = head
        self.tail = tail

    def turn_name(self, loop):
        """The name of the turn of a long loop."""
        return self.head + loop + self.tail

    def turn_names(self):
        """The names of the turns of all its long loops, the outermost first."""
        return tuple([self.turn_name(name) for sort, name, _ in self.loops if sort == "long"])


def stand_for(kernel, point, choice, head, tail):
    """The step of a statement by a choice."""
    return Stand(kernel.loops[point], 2 * point + 1, dict(zip(short_loops(kernel, point), choice[1])), head, tail)


def first_stand(kernel, point, choice):
    """The step of the first one of two instances."""
    return stand_for(kernel, point, choice, "turn ", "")


def second_stand(kernel, point, choice):
    """The step of the second one of two instances."""
    return stand_for(kernel, point, choice, "turn ", MARK)


def meeting_stand(kernel, point, choice):
    """The step of a meeting."""
    return stand_for(kernel, point, choice, "Turn ", "")


def is_pair_case(kernel, thing):
    """Whether thing is a pair case."""
    if not is_tuple_of(thing, 3) or not isinstance(thing[2], str) or thing[2] not in HOWS:
        return False
    for pair in thing[:2]:
        if not is_number_tuple(pair, 2) or not is_point_of(kernel, pair[0], DEEDS) or pair[1] < 0:
            return False
    (one, number), (other, index), how = thing
    if number >= len(point_cases(kernel, one)) or index >= len(point_cases(kernel, other)):
        return False
    first = point_cases(kernel, one)[number][0]
    second = point_cases(kernel, other)[index][0]
    return first[2] == second[2] and (how != "same" or first[0] != second[0])


def equal_rows(axis):
    """The rows that say that both blocks are equal on an axis."""
    name = f"block {axis}"
    return [(name, name + " b", 0), (name + " b", name, 0)]


def how_rows(how):
    """The rows of how."""
    if how == "same":
        return equal_rows(0) + equal_rows(1)
    word, axis = how.split(" ")
    name = "block " + axis
    row = (name, name + " b", -1) if word == "less" else (name + " b", name, -1)
    return [row] if axis == "0" else equal_rows(0) + [row]


def base_rows(kernel, case):
    """The rows of the base of a pair case."""
    (one, number), (other, index), how = case
    first = point_cases(kernel, one)[number][1]
    second = point_cases(kernel, other)[index][1]
    # Those of sizes and promises are in the first system already.
    spare = len(kernel.sizes) + len(kernel.promises)
    return first + marked_rows(second[spare:]) + how_rows(how)


def ahead(one, other):
    """The saying that the one step is ahead of the other one."""
    found = ALWAYS if one.spot < other.spot else NEVER
    common = [loop for loop in one.loops if loop in other.loops]
    for sort, name, _ in reversed(common):
        if sort == "long":
            found = ahead_by_turn(one.turn_name(name), other.turn_name(name), found)
        elif one.shorts[name] != other.shorts[name]:
            found = ALWAYS if one.shorts[name] < other.shorts[name] else NEVER
    return found


def ahead_by_turn(x, y, later):
    """The saying that a turn x is less than y, or equal and then later holds."""
    equal = ("and", (("row", x, y, 0), ("row", y, x, 0), later))
    return "or", (("row", x, y, -1), equal)


def bound_turn(name):
    """The name for the turn of a meeting's loop; other names stay."""
    if name is not None and name.startswith("turn "):
        return "Turn " + name[len("turn "):]
    return name


def said_meetings(kernel, point):
    """For each case of a meeting the rows of its loops and ifs as sayings. They are kept with the kernel."""
    key = ("said meetings", point)
    if key not in kernel.held:
        # In front of the rows of loops and ifs stand those of sizes, promises and blocks.
        spare = len(kernel.sizes) + len(kernel.promises) + 4
        systems = [system[spare:] for _, system in point_cases(kernel, point)]
        kernel.held[key] = [[said((bound_turn(a), bound_turn(b), c)) for a, b, c in rows] for rows in systems]
    return kernel.held[key]


def order_saying(meeting, one, other):
    """The saying that the step of a meeting is between two steps, whichever of them is ahead."""
    before = ("and", (ahead(one, meeting), ahead(meeting, other)))
    behind = ("and", (ahead(other, meeting), ahead(meeting, one)))
    return "or", (before, behind)


def meeting_parts(kernel, one, first, other, second):
    """The sayings that no meeting stands between two instances of one block, told by points and choices."""
    stand = first_stand(kernel, one, first)
    mate = second_stand(kernel, other, second)
    parts = []
    for point in points_of(kernel, ("meet",)):
        orders = {}
        for (choice, _), rows in zip(point_cases(kernel, point), said_meetings(kernel, point)):
            if choice[0] == first[0] and choice[2] == first[2]:
                meeting = meeting_stand(kernel, point, choice)
                if choice[1] not in orders:
                    orders[choice[1]] = order_saying(meeting, stand, mate)
                inner = ("and", tuple(rows + [orders[choice[1]]]))
                names = meeting.turn_names()
                parts.append(("not", ("some", names, inner) if names else inner))
    return parts


def first_alike(kernel, point):
    """For each case of a meeting the index of the first one with equal rows. They are kept with the kernel."""
    key = ("first alike", point)
    if key not in kernel.held:
        known = {}
        texts = [repr(rows) for rows in said_meetings(kernel, point)]
        kernel.held[key] = [known.setdefault(text, at) for at, text in enumerate(texts)]
    return kernel.held[key]


def meeting_lot(kernel, lane, rests):
    """All meetings that a lane comes to with these rests: (point, short turns, index of a case with its rows)."""
    key = ("meeting lot", lane, rests)
    if key not in kernel.held:
        found = []
        for point in points_of(kernel, ("meet",)):
            alike = first_alike(kernel, point)
            for at, (choice, _) in enumerate(point_cases(kernel, point)):
                if choice[0] == lane and choice[2] == rests:
                    found.append((point, choice[1], alike[at]))
        kernel.held[key] = tuple(found)
    return kernel.held[key]


def sign_of(one, other):
    """-1 if the first number is less, 1 if it is greater, 0 if both are equal."""
    if one == other:
        return 0
    return -1 if one < other else 1


def short_signs(names, turns, one, other):
    """How the turns of a meeting's short loops stand to those of two steps: all that its order hangs on besides."""
    found = []
    for name, turn in zip(names, turns):
        for step in (one, other):
            found.append(sign_of(turn, step.shorts.get(name, turn)))
    return tuple(found)


def firm_part(kernel, told, stand, mate):
    """As a part of parts_between, but simpler; of the meeting that is told, as by meeting_lot."""
    point, turns, at = told
    choice = point_cases(kernel, point)[at][0]
    meeting = meeting_stand(kernel, point, (choice[0], turns))
    order = simple(order_saying(meeting, stand, mate))
    inner = simple(("and", tuple(said_meetings(kernel, point)[at] + [order])))
    return none_of(bound(list(meeting.turn_names()), inner))


def firm_parts(kernel, one, first, other, second):
    """As meeting_parts, but simpler sayings that hold together where those do."""
    lot = meeting_lot(kernel, first[0], first[2])
    key = ("firm parts", lot, one, first[1], other, second[1])
    if key not in kernel.held:
        stand = first_stand(kernel, one, first)
        mate = second_stand(kernel, other, second)
        known = {}
        for told in lot:
            signs = short_signs(short_loops(kernel, told[0]), told[1], stand, mate)
            mark = ("firm part", told[0], told[2], one, other, signs)
            if mark not in known:
                if mark not in kernel.held:
                    kernel.held[mark] = firm_part(kernel, told, stand, mate)
                known[mark] = kernel.held[mark]
        kernel.held[key] = [part for part in known.values() if part != ALWAYS]
    return kernel.held[key]


def parts_between(kernel, case):
    """The sayings that no meeting stands between the two instances of a pair case; [] for unlike blocks."""
    (one, number), (other, index), how = case
    if how != "same":
        return []
    first = point_cases(kernel, one)[number][0]
    second = point_cases(kernel, other)[index][0]
    return meeting_parts(kernel, one, first, other, second)


def beside_saying(kernel, case):
    """The saying of a pair case that both instances are there and side by side."""
    rows = [said(row) for row in base_rows(kernel, case)]
    return "and", tuple(rows + parts_between(kernel, case))
