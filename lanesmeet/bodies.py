"""Bodies of kernels: their statements by points, and what is wrong with the first that cannot stand."""

from lanesmeet.errors import BadBody
from lanesmeet.forms import blocks_in, is_statement, place_of

MOST_STATEMENTS = 80


class Scroll:
    """The statements of a body so far, and what they have given.

    For each point stand the pairs (point, side) and the loops (sort, name, point) around it, and the
    points of each of its blocks.
    """

    def __init__(self, sizes, arrays):
        self.sizes = sizes
        self.arrays = arrays
        self.statements = []
        self.arounds = []
        self.loops = []
        self.inner = []
        self.words = {}

    def enter(self, block, around, loops):
        """The points of a block that stands in what is around it."""
        points = []
        for statement in block:
            point = len(self.statements)
            word = self.wrong(statement, point, around, loops)
            if word is not None:
                raise BadBody(point, word)
            points.append(point)
            self.statements.append(statement)
            self.arounds.append(around)
            self.loops.append(loops)
            self.inner.append(())
            self.give(statement)
            self.inner[point] = self.enter_blocks(statement, point, around, loops)
        return tuple(points)

    def enter_blocks(self, statement, point, around, loops):
        """The points of each block of the statement."""
        own = loops
        if statement[0] in ("short", "long"):
            own = loops + ((statement[0], statement[1], point),)
        found = []
        for at, block in enumerate(blocks_in(statement)):
            side = at if statement[0] == "if" else None
            found.append(self.enter(block, around + ((point, side),), own))
        return tuple(found)

    def give(self, statement):
        """Notes the own word that a take or a let gives."""
        if statement[0] in ("take", "let"):
            self.words[statement[1]] = True

    def wrong(self, statement, point, around, loops):
        """What is wrong with a statement, the first by its order; None if nothing is."""
        if not is_statement(statement):
            return "form"
        if point >= MOST_STATEMENTS:
            return "many"
        sorts = [sort for sort, _, _ in loops]
        if len(around) > 7 or sorts.count("long") > 3 or sorts.count("short") > 3:
            return "deep"
        if statement[0] in ("short", "long") and statement[1] in [name for _, name, _ in loops]:
            return "name"
        if not self.are_known(mentions(statement), loops):
            return "unknown"
        place = place_of(statement)
        if place is not None and not fits_array(place[1], self.arrays[place[0]]):
            return "where"
        for word in words_read(statement):
            if word not in self.words:
                return "word"
        return None

    def are_known(self, named, loops):
        """Whether all that is named, pairs (sort, name), is there or around."""
        around = [(sort, name) for sort, name, _ in loops]
        for sort, name in named:
            if sort == "size" and name not in self.sizes:
                return False
            if sort == "array" and name not in self.arrays:
                return False
            if sort in ("short", "long") and (sort, name) not in around:
                return False
        return True


def small_mentions(small):
    """What a small names."""
    word = small[0]
    if word == "turn":
        return [("short", small[1])]
    if word == "rest":
        return [("size", small[1])]
    if word in ("plus", "minus", "times"):
        return small_mentions(small[1]) + small_mentions(small[2])
    return small_mentions(small[1]) if word in ("over", "rest of") else []


def form_mentions(form):
    """What a large form names."""
    if form[0] == "turn":
        return [("long", form[1])]
    return [("size", form[1])] if form[0] == "tiles" else []


def is_spot_part(part):
    """Whether a part of a place is a spot, not a small."""
    return isinstance(part[0], tuple)


def part_mentions(part):
    """What a spot or a small names."""
    return form_mentions(part[0]) + small_mentions(part[1]) if is_spot_part(part) else small_mentions(part)


def guard_mentions(guard):
    """What a guard names."""
    word = guard[0]
    if word == "small":
        return small_mentions(guard[1]) + small_mentions(guard[3])
    if word == "order":
        return part_mentions(guard[1]) + part_mentions(guard[2])
    if word == "within":
        return part_mentions(guard[1]) + [("size", guard[2])]
    return [pair for inner in guard[1:] for pair in guard_mentions(inner)]


def mentions(statement):
    """The sizes, arrays and loops that a statement names, as pairs (sort, name); not those in its blocks."""
    word = statement[0]
    if word == "long":
        return form_mentions(statement[2]) + form_mentions(statement[3])
    if word == "if":
        return guard_mentions(statement[1])
    place = place_of(statement)
    if place is None:
        return []
    return [("array", place[0])] + [pair for part in place[1] for pair in part_mentions(part)]


def fits_array(where, array):
    """Whether a place in an array has as many parts as this, and of its kind."""
    if len(where) != len(array[2]):
        return False
    return all([is_spot_part(part) == (array[0] == "far") for part in where])


def words_read(statement):
    """The own words that a statement reads."""
    if statement[0] in ("put", "add"):
        return (statement[2],)
    return statement[3] if statement[0] == "let" else ()
