"""Kernels and sizes for the tests: some by hand, some by a seed."""

import itertools
import random

from lanesmeet.kernels import Kernel


def small(r, shorts, sizes, lanes=True, depth=1):
    k = r.random()
    if depth and k < 0.3:
        word = r.choice(("plus", "minus", "times"))
        return (word, small(r, shorts, sizes, lanes, depth - 1), small(r, shorts, sizes, lanes, depth - 1))
    if depth and k < 0.4:
        return (r.choice(("over", "rest of")), small(r, shorts, sizes, lanes, depth - 1), r.randint(1, 3))
    if lanes and k < 0.7:
        return ("lane", r.randint(0, 1))
    if shorts and k < 0.85:
        return ("turn", r.choice(shorts))
    if sizes and k < 0.9:
        return ("rest", r.choice(sizes)[0])
    return ("is", r.randint(-1, 3))


def form(r, longs, sizes):
    k = r.random()
    if k < 0.45:
        return ("block", r.randint(0, 1) if r.random() < 0.3 else 0, r.choice((0, 0, 0, 1, -1)))
    if longs and k < 0.8:
        return ("turn", r.choice(longs), r.choice((0, 0, 0, 1, -1)))
    if sizes and k < 0.88:
        return ("tiles", r.choice(sizes)[0], r.choice((0, -1)))
    return ("none", None, r.randint(0, 1))


def spot(r, longs, shorts, sizes):
    return (form(r, longs, sizes), small(r, shorts, sizes))


def guard(r, longs, shorts, sizes, depth=1):
    k = r.random()
    if depth and k < 0.15:
        return ("not", guard(r, longs, shorts, sizes, depth - 1))
    if depth and k < 0.35:
        return (r.choice(("and", "or")), guard(r, longs, shorts, sizes, depth - 1),
                guard(r, longs, shorts, sizes, depth - 1))
    if k < 0.6:
        return ("small", small(r, shorts, sizes), r.choice(("less", "atmost", "same")), small(r, shorts, sizes))
    if sizes and k < 0.75:
        return ("within", spot(r, longs, shorts, sizes), r.choice(sizes)[0])
    lanes = r.random() < 0.5
    return ("order", (form(r, longs, sizes), small(r, shorts, sizes, lanes)),
            (form(r, longs, sizes), small(r, shorts, sizes, lanes)))


class Maker:
    """Makes bodies by a seed, of at most so many statements."""

    def __init__(self, r, sizes, arrays, many):
        self.r = r
        self.sizes = sizes
        self.arrays = arrays
        self.left = many

    def place(self, longs, shorts):
        sort, name, counts = self.r.choice(self.arrays)
        if sort == "far":
            return (name, tuple(spot(self.r, longs, shorts, self.sizes) for _ in counts))
        return (name, tuple(small(self.r, shorts, self.sizes) for _ in counts))

    def block(self, longs, shorts, deep):
        found = []
        for _ in range(self.r.randint(1, 3)):
            if self.left > 0:
                self.left -= 1
                found.append(self.statement(longs, shorts, deep))
        return tuple(found)

    def statement(self, longs, shorts, deep):
        r = self.r
        k = r.random()
        if deep < 2 and k < 0.12 and len(longs) < 2:
            name = "tuv"[len(longs)]
            low = form(r, longs, self.sizes)
            high = ("tiles", self.sizes[0][0], r.choice((0, 0, -1))) if self.sizes else ("none", None, 2)
            return ("long", name, r.choice((("none", None, 0), low)), high, self.block(longs + [name], shorts, deep + 1))
        if deep < 2 and k < 0.2 and len(shorts) < 1:
            return ("short", "k", r.randint(1, 2), self.block(longs, shorts + ["k"], deep + 1))
        if deep < 3 and k < 0.36:
            first = self.block(longs, shorts, deep + 1)
            second = self.block(longs, shorts, deep + 1) if r.random() < 0.4 else ()
            return ("if", guard(r, longs, shorts, self.sizes), first, second)
        if k < 0.55:
            return ("meet",)
        if k < 0.7:
            return ("take", "x", self.place(longs, shorts))
        if k < 0.9:
            return ("put", self.place(longs, shorts), "w")
        return ("add", self.place(longs, shorts), "w")


def made_kernel(seed, many=7, widths=(1, 2, 3, 4), lane_pairs=((1, 1), (1, 2), (2, 1), (2, 2), (1, 3), (1, 4))):
    r = random.Random(seed)
    width = r.choice(widths)
    lanes = r.choice(lane_pairs)
    sizes = []
    for name in ("n", "m")[:r.choice((0, 1, 1, 1, 2))]:
        count = r.randint(1, min(2, width))
        sizes.append((name, tuple(sorted(r.sample(range(width), count)))))
    sizes = tuple(sizes)
    promises = []
    names = [name for name, _ in sizes] + [None]
    if len(names) > 1 and r.random() < 0.4:
        a, b = r.sample(names, 2)
        promises.append((a, b, r.randint(-1, 2)))
    blocks = []
    for axis in range(2):
        if sizes and r.random() < (0.7 if axis == 0 else 0.15):
            blocks.append(("tiles", r.choice(sizes)[0], r.choice((0, 0, 1, -1))))
        else:
            blocks.append(("none", None, r.choice((1, 1, 2))))
    arrays = []
    if sizes:
        arrays.append(("far", "a", tuple(r.choice(sizes)[0] for _ in range(r.choice((1, 1, 2))))))
    if not arrays or r.random() < 0.6:
        arrays.append(("shared", "s", tuple(r.randint(1, 4) for _ in range(r.choice((1, 1, 2))))))
    maker = Maker(r, sizes, arrays, many)
    body = (("let", "w", "f", ()),) + maker.block([], [], 0) + maker.block([], [], 0)
    return Kernel(width, lanes, tuple(blocks), sizes, tuple(promises), tuple(arrays), body)


def all_sizes_up_to(kernel, most):
    """All sizes of a kernel with at most so many tiles."""
    names = [name for name, _ in kernel.sizes]
    choices = [[(tiles, rest) for tiles in range(most + 1) for rest in rests] for _, rests in kernel.sizes]
    for pairs in itertools.product(*choices):
        sizes = dict(zip(names, pairs))
        tiles = {name: sizes[name][0] for name in names}
        tiles[None] = 0
        if all(tiles[a] - tiles[b] <= c for a, b, c in kernel.promises):
            yield sizes


def numbers_at(sizes):
    return {"tiles " + name: sizes[name][0] for name in sizes}


ONE = ("none", None, 1)
NO_KERNELS = (None, 5, "kernel", (), {}, ONE)
NO_SIZES_AT = (
    None, 5, [], {}, {"n": (1, 0), "m": (0, 0)}, {"m": (1, 0)}, {"n": (True, 0)}, {"n": (1, False)}, {"n": [1, 0]},
    {"n": (1,)}, {"n": (-1, 0)}, {"n": (1, 3)}, {"n": (9, 0)}, (("n", (1, 0)),), {"n": None})


def shift_kernel(meets=True, promises=(), rests=(0,)):
    """The kernel of point [72]: each lane takes its cell, and puts into the next one."""
    take = ("take", "x", ("a", ((("block", 0, 0), ("lane", 1)),)))
    put = ("put", ("a", ((("block", 0, 0), ("plus", ("lane", 1), ("is", 1))),)), "x")
    body = (take, ("meet",), put) if meets else (take, put)
    return Kernel(4, (1, 4), (("tiles", "n", 0), ONE), (("n", rests),), promises, (("far", "a", ("n",)),), body)


def loop_kernel():
    """The kernel of point [60]'s example: in each turn lane 0 puts, all meet, lane 1 takes."""
    def only(lane, statement):
        return ("if", ("small", ("lane", 1), "same", ("is", lane)), (statement,), ())

    put = only(0, ("put", ("s", (("is", 0),)), "w"))
    take = only(1, ("take", "x", ("s", (("is", 0),))))
    loop = ("long", "t", ("none", None, 0), ("tiles", "n", 0), (put, ("meet",), take))
    return Kernel(4, (1, 2), (ONE, ONE), (("n", (0, 1)),), (("n", None, 8),), (("shared", "s", (1,)),),
                  (("let", "w", "f", ()), loop))
