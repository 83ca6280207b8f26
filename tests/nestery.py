"""Nests for the tests, made by a seed, and what is gone through deed by deed."""

import random

from lanesmeet.kernels import Kernel
from lanesmeet.meaning import cell_of, instances
from lanesmeet.nests import is_nest, pieces_of

SINGLE = ("none", None, 1)
ORIGIN = (0, 0)
ZERO = ("is", 0)


def nest_of(sizes, arrays, body):
    """A nest with sizes of these names, arrays as pairs (name, names)."""
    return Kernel(1, (1, 1), (SINGLE, SINGLE), tuple((name, (0,)) for name in sizes), (),
                  tuple(("far", name, tuple(names)) for name, names in arrays), tuple(body))


def at(array, *forms):
    return (array, tuple((form, ZERO) for form in forms))


def turn(name, more=0):
    return ("turn", name, more)


def tiles(name, more=0):
    return ("tiles", name, more)


def bare(number):
    return ("none", None, number)


EXAMPLE = nest_of("n", (("a", "n"), ("b", "n")), (
    ("long", "i", bare(1), tiles("n"), (
        ("take", "x", at("a", turn("i", -1))), ("let", "y", "f", ("x",)), ("put", at("a", turn("i")), "y"))),
    ("long", "j", bare(0), tiles("n"), (("take", "x", at("a", turn("j"))), ("put", at("b", turn("j")), "x")))))


def wide_nest():
    """A nest whose one piece has very many cases."""
    part = ("not", ("within", (turn("i"), ZERO), "n"))
    guard = part
    for _ in range(4):
        guard = ("or", guard, part)
    block = (("let", "x", "f", ()), ("put", at("a", turn("i")), "x"))
    for _ in range(5):
        block = (("if", guard, block, ()),)
    return nest_of("n", (("a", "n"),), (("long", "i", bare(0), tiles("n"), block),))


class NestMaker:
    """Makes bodies of nests by a seed, of at most so many loops, ifs and pieces."""

    def __init__(self, r, sizes, arrays, loops, ifs, pieces):
        self.r = r
        self.sizes = sizes
        self.arrays = arrays
        self.loops = loops
        self.ifs = ifs
        self.pieces = pieces

    def form(self, longs, much=0.75):
        k = self.r.random()
        if longs and k < much:
            return turn(self.r.choice(longs), self.r.choice((0, 0, 0, 1, -1)))
        if k < much + 0.1:
            return tiles(self.r.choice(self.sizes), self.r.choice((0, -1)))
        return bare(self.r.choice((0, 1, 1, 2)))

    def small(self):
        k = self.r.random()
        if k < 0.7:
            return ZERO
        if k < 0.8:
            return ("rest", self.r.choice(self.sizes))
        return self.r.choice((("is", 1), ("is", -1), ("plus", ("is", 2), ("is", -1)), ("over", ("is", 3), 2)))

    def spot(self, longs):
        return (self.form(longs), self.small())

    def place(self, longs):
        name, names = self.r.choice(self.arrays)
        return (name, tuple(self.spot(longs) for _ in names))

    def guard(self, longs, depth=1):
        k = self.r.random()
        if depth and k < 0.15:
            return ("not", self.guard(longs, depth - 1))
        if depth and k < 0.35:
            return (self.r.choice(("and", "or")), self.guard(longs, depth - 1), self.guard(longs, depth - 1))
        if k < 0.4:
            return ("small", self.small(), self.r.choice(("less", "atmost", "same")), self.small())
        if k < 0.6:
            return ("within", self.spot(longs), self.r.choice(self.sizes))
        return ("order", self.spot(longs), self.spot(longs))

    def piece(self, longs):
        self.pieces -= 1
        found = []
        words = []
        for word in "xyz"[:self.r.choice((0, 1, 1, 2))]:
            found.append(("take", word, self.place(longs)))
            words.append(word)
        if not words or self.r.random() < 0.4:
            found.append(("let", "w", self.r.choice("fg"), tuple(words[:self.r.randint(0, 2)])))
            words = ["w"]
        return found + [(self.r.choice(("put", "put", "add")), self.place(longs), self.r.choice(words))]

    def block(self, longs, deep):
        found = []
        for _ in range(self.r.choice((1, 1, 2, 2, 3))):
            k = self.r.random()
            if self.loops > 0 and len(longs) < 3 and deep < 4 and k < 0.55:
                self.loops -= 1
                name = self.r.choice([one for one in "ijkl" if one not in longs])
                low = self.r.choice((bare(0), bare(0), bare(1), self.form(longs)))
                high = self.r.choice((tiles(self.sizes[0]), tiles(self.sizes[-1]), tiles(self.sizes[0], -1),
                                      self.form(longs)))
                found.append(("long", name, low, high, self.block(longs + [name], deep + 1)))
            elif self.ifs > 0 and deep < 4 and k < 0.7:
                self.ifs -= 1
                second = self.block(longs, deep + 1) if self.r.random() < 0.4 else ()
                found.append(("if", self.guard(longs), self.block(longs, deep + 1), second))
            elif self.pieces > 0:
                found.extend(self.piece(longs))
        return tuple(found)


def made_nest(seed, loops=3, ifs=1, pieces=3):
    """A nest with one piece or more."""
    r = random.Random(seed)
    while True:
        sizes = ("n",) if r.random() < 0.75 else ("n", "m")
        arrays = [("a", tuple(r.choice(sizes) for _ in range(r.choice((1, 1, 2)))))]
        if r.random() < 0.5:
            arrays.append(("b", (r.choice(sizes),)))
        body = NestMaker(r, sizes, arrays, loops, r.randint(0, ifs), pieces).block([], 0)
        found = nest_of(sizes, arrays, body)
        if is_nest(found) and pieces_of(found):
            return found


def deeds_at(nest, sizes):
    """All deeds in the nest's own order."""
    return [one for one in instances(nest, sizes, ORIGIN, ORIGIN) if nest.statements[one[0]][0] != "meet"]


class Crossing:
    """The deeds at given sizes, and which of them cross."""

    def __init__(self, nest, sizes):
        self.nest = nest
        self.deeds = deeds_at(nest, sizes)
        self.cells = {one: cell_of(nest, sizes, one) for one in self.deeds}

    def cross(self, one, other):
        words = {self.nest.statements[one[0]][0], self.nest.statements[other[0]][0]}
        return self.cells[one] == self.cells[other] and ("put" in words or words == {"add", "take"})

    def pairs(self):
        """All pairs of deeds that cross, the one ahead in the nest first."""
        for at_, one in enumerate(self.deeds):
            for other in self.deeds[at_ + 1:]:
                if self.cross(one, other):
                    yield one, other


def doing_of(nest, deed):
    """The name of the doing of a deed."""
    names = [name for name in pieces_of(nest) if name >= deed[0]]
    return (min(names), deed[3])


def turns_by(nest, deed):
    """The turns of the loops around a deed, by the points of the loops."""
    return dict(zip([point for point, _ in nest.around(deed[0]) if nest.statements[point][0] == "long"], deed[3]))


def carry_of(nest, one, other):
    """The carry that comes for two deeds, the first one ahead."""
    first = turns_by(nest, one)
    second = turns_by(nest, other)
    common = sorted(set(first) & set(second))
    level = 0
    while level < len(common) and first[common[level]] == second[common[level]]:
        level += 1
    return (one[0], other[0], level)
