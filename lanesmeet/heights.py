"""Heights: numbers for the deeds of a nest, which rise along what crosses."""

from lanesmeet.carries import all_carries, carry_search, level_rows
from lanesmeet.cases import marked_name
from lanesmeet.crossings import Search, common_loops
from lanesmeet.differences import lowest
from lanesmeet.errors import BadChoice, BadHeights
from lanesmeet.forms import is_form
from lanesmeet.guards import form_name
from lanesmeet.nests import check_nest, piece_names, piece_points
from lanesmeet.parts import with_more
from lanesmeet.plain import has_just_keys
from lanesmeet.ways import first_ring, least_sums, weighed


def is_height(nest, name, thing):
    """Whether thing is a height of the piece of this name."""
    if not is_form(thing):
        return False
    if thing[0] == "tiles":
        return thing[1] in [size[0] for size in nest.sizes]
    return thing[0] == "none" or thing[1] in [loop[1] for loop in nest.loops[name]]


def are_heights(nest, thing):
    """Whether thing is a dict from just the names of all pieces to heights."""
    if not has_just_keys(thing, list(piece_points(nest))):
        return False
    return all([is_height(nest, name, thing[name]) for name in thing])


def check_heights(nest, heights):
    """Raises BadNest, or BadHeights for what are no heights."""
    check_nest(nest)
    if not are_heights(nest, heights):
        raise BadHeights("these are no heights of just all pieces")


def steps_of(nest):
    """The carries that come, but for those within one doing. They are kept with the nest."""
    if "steps" not in nest.held:
        names = piece_names(nest)
        found = []
        for one, other, level in all_carries(nest):
            if names[one] != names[other] or level < len(common_loops(nest, one, other)):
                found.append((one, other, level))
        nest.held["steps"] = found
    return nest.held["steps"]


def fall(nest, heights):
    """Sizes and two deeds that show that heights do not rise, None if they do."""
    check_heights(nest, heights)
    return first_fall(nest, heights)


def first_fall(nest, heights):
    """As fall, of what are surely heights."""
    names = piece_names(nest)
    for step in steps_of(nest):
        one, other, _ = step
        low = heights[names[one]]
        high = heights[names[other]]
        a, b = ends_of(low, high)
        # They fall where the second number is at most the first one.
        if a == b and low[2] < high[2]:
            continue
        more = [] if a == b else [(b, a, low[2] - high[2])]
        found = Search(nest, [(one, other, level_rows(nest, step) + more)]).example()
        if found is not None:
            return found
    return None


def ends_of(one, other):
    """The names of the forms of two heights, for the first and for the second one of two deeds."""
    return form_name(one), marked_name(form_name(other))


class Drops:
    """The greatest differences of two bases over all deeds for which a step comes, each asked for once."""

    def __init__(self, nest):
        self.nest = nest
        self.names = piece_names(nest)
        self.rows = {}
        self.known = {}

    def rows_for(self, step):
        """The systems of a step that have a point."""
        if step not in self.rows:
            systems = [rows for _, _, _, _, rows in carry_search(self.nest, step).told_systems()]
            self.rows[step] = [rows for rows in systems if weighed(rows, {})[0] is not None]
        return self.rows[step]

    def drop(self, step, low, high):
        """The drop of a step whose first deed has the base low and whose second one high; None if there is none."""
        key = step, low, high
        if key not in self.known:
            a, b = ends_of(low, high)
            mosts = [0 if a == b else least_sums(rows, a).get(b) for rows in self.rows_for(step)]
            self.known[key] = None if None in mosts else max(mosts)
        return self.known[key]

    def drop_by(self, step, choice):
        """The drop of a step by a choice."""
        return self.drop(step, choice[self.names[step[0]]], choice[self.names[step[1]]])


def drops_of(nest):
    """The drops of a nest. They are kept with it."""
    if "drops" not in nest.held:
        nest.held["drops"] = Drops(nest)
    return nest.held["drops"]


def is_base_choice(nest, thing):
    """Whether thing is a dict from just the names of all pieces to bases."""
    return are_heights(nest, thing) and all([thing[name][2] == 0 for name in thing])


def spot_for(name):
    """The name that stands for the number of a piece's height in rows."""
    return f"piece {name}"


def ring_among(nest, rows):
    """The first ring of steps, told by rows (piece, piece, number), one for each step; None if there is none."""
    steps = steps_of(nest)
    # Steps within a piece are rings by themselves, or of no use in any: they would only add to its length.
    for step, (a, b, c) in zip(steps, rows):
        if a == b and c < 0:
            return (step,)
    own = [at for at, (a, b, _) in enumerate(rows) if a != b]
    found = first_ring([rows[at] for at in own])
    return None if found is None else tuple([steps[own[at]] for at in found])


def lifts(nest, choice):
    """The least heights of the bases of a choice that rise, or what shows that there are none."""
    check_nest(nest)
    if not is_base_choice(nest, choice):
        raise BadChoice("this is no dict from just all pieces to bases")
    drops = drops_of(nest)
    rows = []
    for step in steps_of(nest):
        number = drops.drop_by(step, choice)
        if number is None:
            return "open", step
        rows.append((spot_for(drops.names[step[0]]), spot_for(drops.names[step[1]]), -number - 1))
    ring = ring_among(nest, rows)
    if ring is not None:
        return "ring", ring
    names = sorted(list(choice))
    floor = [(None, spot_for(name), 0) for name in names]
    numbers = lowest(floor + [row for row in rows if row[0] != row[1]])
    return "heights", {name: with_more(choice[name], numbers[spot_for(name)]) for name in names}
