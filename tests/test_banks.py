"""Points [120] to [123]: banks, layings, the lots of crews, and what clashes."""

import itertools
import random
import unittest

import places
import runs
import samples
from lanesmeet.banks import (
    access_for, bank_of, clash, cost, is_laying, lot_of, lots, paddings, turnings, turns_taken, worst)
from lanesmeet.errors import (
    BadAccess, BadArray, BadBanks, BadCell, BadCounts, BadKernel, BadLaying, BadLot, BadPoint, BadSizesAt, BadWidth, TooMany)
from lanesmeet.kernels import Kernel
from lanesmeet.meaning import cell_of, is_there

ONE = samples.ONE
B = (0, 0)
L0 = ("lane", 0)
LANE = ("lane", 1)
BLOCK = ("block", 0, 0)
LET = ("let", "x", "f", ())
BAD_COUNTS = (None, 4, [4], (), (0,), (17,), (4, 0), (4, 17), (4, 4, 4), (True,), (4, True), ("4",), (None, 4), {4: 4})
BAD_BANKS = (None, 0, 33, -1, True, "4", (4,))
BAD_WIDTHS = (None, 0, 3, 5, 32, -1, True, "2", (2,))


def square_kernel(**change):
    """The example of point [123]: four by four lanes put by rows, meet, and take by columns."""
    told = {"width": 4, "lanes": (4, 4), "blocks": (ONE, ONE), "sizes": (), "promises": (),
            "arrays": (("shared", "s", (4, 4)),),
            "body": (LET, ("put", ("s", (L0, LANE)), "x"), ("meet",), ("take", "y", ("s", (LANE, L0))))}
    return Kernel(**{**told, **change})


def tiled_kernel(body, **change):
    told = {"width": 4, "lanes": (1, 4), "blocks": (("tiles", "n", 0), ONE), "sizes": (("n", (0, 1)),), "promises": (("n", None, 8),),
            "arrays": (("far", "a", ("n",)), ("shared", "s", (6,)), ("shared", "v", (2, 3))), "body": body}
    return Kernel(**{**told, **change})


def plain_bank(counts, banks, laying, cell):
    columns = counts[-1]
    y, x = cell
    if laying[0] == "padded":
        return (y * (columns + laying[1]) + x) % banks
    if laying[0] == "turned":
        return (y * columns + (x + laying[1] * y) % columns) % banks
    return laying[1][y * columns + x]


def plain_cost(counts, banks, laying, lot):
    told = [plain_bank(counts, banks, laying, cell) for cell in lot]
    return max((told.count(bank) for bank in told), default=0)


def cells_of(counts):
    rows = counts[0] if len(counts) == 2 else 1
    return [(y, x) for y in range(rows) for x in range(counts[-1])]


def plain_accesses(kernel, width, sizes):
    """All accesses at sizes, by points, with their lots."""
    found = {}
    for one in runs.Plain(kernel, sizes).cells:
        if places.array_at(kernel, one[0])[0] == "shared":
            crew = (one[2][0] * kernel.lanes[1] + one[2][1]) // width
            own = found.setdefault((one[0], one[1], crew, one[3]), set())
            if not places.beyond_axes(kernel, sizes, one):
                numbers = cell_of(kernel, sizes, one)[1]
                own.add(numbers if len(numbers) == 2 else (0,) + numbers)
    return {key: tuple(sorted(lot)) for key, lot in found.items()}


def made(seed):
    """A kernel with shared arrays by a seed, and all its widths."""
    kernel = samples.made_kernel(seed, many=8, lane_pairs=((1, 2), (2, 2), (1, 4), (2, 3), (2, 4)))
    count = kernel.lanes[0] * kernel.lanes[1]
    return kernel, [width for width in range(1, count + 1) if count % width == 0]


def made_access(seed):
    """Kernels whose crews come to a shared array by guards of many kinds."""
    r = random.Random(seed)
    smalls = (LANE, ("plus", LANE, ("is", 1)), ("rest of", LANE, 2), ("minus", ("is", 3), LANE), ("times", LANE, ("is", 2)),
              ("plus", LANE, ("turn", "k")), ("plus", LANE, ("rest", "n")), ("is", 1))

    def guard(deep):
        k = r.random()
        if deep and k < 0.3:
            return (r.choice(("and", "or")), guard(False), guard(False))
        if k < 0.45:
            return ("within", (r.choice((BLOCK, ("turn", "t", 0))), r.choice((LANE, ("minus", LANE, ("is", 2))))), "n")
        if k < 0.6:
            return ("small", r.choice((LANE, ("turn", "k"))), r.choice(("less", "same", "atmost")), ("is", r.randint(0, 3)))
        spots = [(("turn", "t", 0), ("times", LANE, ("is", r.randint(-2, 2)))), (BLOCK, ("is", r.randint(0, 3)))]
        r.shuffle(spots)
        return ("order", spots[0], spots[1])

    def deed():
        place = ("s", (r.choice(smalls),)) if r.random() < 0.7 else ("v", (("rest of", r.choice(smalls), 2), r.choice(smalls)))
        word = r.choice(("take", "put", "add"))
        return ("take", "y", place) if word == "take" else (word, place, "x")

    inner = tuple(("if", guard(True), (deed(),), (deed(),) if r.random() < 0.3 else ()) for _ in range(2))
    body = (LET, ("long", "t", ("none", None, 0), ("tiles", "n", 0), (("short", "k", 2, inner),)))
    return tiled_kernel(body, width=2, promises=()), [1, 2, 4]


class Layings(unittest.TestCase):
    def test_errors_in_order(self):
        for counts in BAD_COUNTS:
            for call in (lambda: is_laying(counts, None, None), lambda: bank_of(counts, None, None, None),
                         lambda: cost(counts, None, None, None)):
                with self.assertRaises(BadCounts):
                    call()
        for banks in BAD_BANKS:
            for call in (lambda: is_laying((4, 4), banks, None), lambda: bank_of((4, 4), banks, None, None),
                         lambda: cost((4, 4), banks, None, None)):
                with self.assertRaises(BadBanks):
                    call()
        for laying in (None, 5, (), ("padded",), ("padded", 32), ("padded", -1), ("padded", True), ["padded", 1], ("turned", 32),
                       ("turned", None), ("listed", ()), ("listed", [0] * 6), ("listed", (0,) * 5), ("listed", (0,) * 7),
                       ("listed", (0,) * 5 + (3,)), ("listed", (0,) * 5 + (-1,)), ("listed", (0,) * 5 + (True,)), ("other", 1), ("other", (0,) * 6),
                       (None, 1), ("padded", 1, 1), (["padded"], 1)):
            self.assertIs(is_laying((2, 3), 3, laying), False, laying)
            for call in (lambda: bank_of((2, 3), 3, laying, None), lambda: cost((2, 3), 3, laying, None)):
                with self.assertRaises(BadLaying):
                    call()
        for cell in (None, 5, (), (0,), (0, 3), (2, 0), (-1, 0), (0, -1), [0, 0], (True, 0), (0, False), ("0", 0), (0, 0, 0)):
            with self.assertRaises(BadCell):
                bank_of((2, 3), 3, ("padded", 0), cell)
            for lot in ((cell,), ((0, 0), cell)):
                with self.assertRaises(BadLot):
                    cost((2, 3), 3, ("padded", 0), lot)
        for lot in (None, 5, [(0, 0)], ((0, 1), (0, 0)), ((0, 0), (0, 0)), {(0, 0): 1}):
            with self.assertRaises(BadLot):
                cost((2, 3), 3, ("padded", 0), lot)

    def test_by_hand(self):
        for laying in (("padded", 0), ("padded", 31), ("turned", 0), ("turned", 31), ("listed", (0, 2, 1, 0, 0, 2))):
            self.assertIs(is_laying((2, 3), 3, laying), True)
        self.assertIs(is_laying((6,), 3, ("listed", (0, 2, 1, 0, 0, 2))), True)
        self.assertEqual(bank_of((2, 3), 4, ("padded", 2), (1, 2)), 3)
        self.assertEqual(bank_of((2, 3), 4, ("turned", 2), (1, 2)), 0)
        self.assertEqual(bank_of((2, 3), 4, ("listed", (0, 1, 2, 3, 0, 1)), (1, 1)), 0)
        self.assertEqual(bank_of((16,), 8, ("padded", 5), (0, 13)), 5)
        self.assertEqual(cost((4, 4), 4, ("padded", 0), ()), 0)
        self.assertEqual(cost((4, 4), 4, ("padded", 0), ((0, 0), (1, 0), (2, 0), (3, 0))), 4)
        self.assertEqual(cost((4, 4), 4, ("padded", 1), ((0, 0), (1, 0), (2, 0), (3, 0))), 1)
        self.assertEqual(cost((4, 4), 1, ("padded", 1), ((0, 0), (1, 0), (2, 0))), 3)

    def test_gone_through(self):
        r = random.Random(120)
        for _ in range(300):
            counts = tuple(r.randint(1, 6) for _ in range(r.randint(1, 2)))
            banks = r.randint(1, 9)
            cells = cells_of(counts)
            laying = r.choice((("padded", r.randint(0, 31)), ("turned", r.randint(0, 31)),
                               ("listed", tuple(r.randrange(banks) for _ in cells))))
            for cell in cells:
                self.assertEqual(bank_of(counts, banks, laying, cell), plain_bank(counts, banks, laying, cell))
            lot = tuple(sorted(r.sample(cells, r.randint(0, len(cells)))))
            self.assertEqual(cost(counts, banks, laying, lot), plain_cost(counts, banks, laying, lot))

    def test_all_paddings_and_turnings(self):
        # p and p + banks put the same cells together, m and m + columns lie alike.
        for counts, banks in itertools.product(((3,), (3, 4), (4, 5)), (2, 3, 5)):
            cells = cells_of(counts)
            for p in range(32 - banks):
                rows = [[bank_of(counts, banks, ("padded", at), cell) for cell in cells] for at in (p, p + banks)]
                self.assertEqual(rows[0], rows[1])
            for m in range(32 - counts[-1]):
                rows = [[bank_of(counts, banks, ("turned", at), cell) for cell in cells] for at in (m, m + counts[-1])]
                self.assertEqual(rows[0], rows[1])


class Lots(unittest.TestCase):
    def test_errors_in_order(self):
        for thing in samples.NO_KERNELS:
            for call in (lambda: lot_of(thing, None, None, None), lambda: lots(thing, None, None),
                         lambda: access_for(thing, None, None, None)):
                with self.assertRaises(BadKernel):
                    call()
        low = ("small", LANE, "less", ("is", 2))
        kernel = tiled_kernel((LET, ("if", low, (("put", ("s", (LANE,)), "x"),), ()), ("put", ("a", ((BLOCK, LANE),)), "x"), ("meet",)))
        for point in (None, 0, 1, 3, 4, 5, -1, True, "2", (2,)):
            for call in (lambda: lot_of(kernel, point, None, None), lambda: lots(kernel, point, None),
                         lambda: access_for(kernel, point, None, None)):
                with self.assertRaises(BadPoint):
                    call()
        for width in BAD_WIDTHS:
            for call in (lambda: lot_of(kernel, 2, width, None), lambda: lots(kernel, 2, width),
                         lambda: access_for(kernel, 2, width, None)):
                with self.assertRaises(BadWidth):
                    call()
        good = ({"n": (2, 0)}, (1, 0), 0, ())
        self.assertEqual(lot_of(kernel, 2, 2, good), ((0, 0), (0, 1)))
        self.assertEqual(lot_of(kernel, 2, 4, good), ((0, 0), (0, 1)))
        for access in [None, 5, list(good), good[:3], good + (1,), {}] + [
                good[:at] + (thing,) + good[at + 1:] for at, things in (
                    (0, samples.NO_SIZES_AT), (1, (None, (2, 0), (0, 1), (-1, 0), (True, 0), [1, 0], (1,))),
                    (2, (None, 1, 2, -1, True, False, "0")), (3, (None, [], (0,), 0))) for thing in things]:
            with self.assertRaises(BadAccess):
                lot_of(kernel, 2, 2, access)
        self.assertEqual(lots(kernel, 2, 2), [((0, 0), (0, 1))])
        for lot in (None, 5, (), ((0, 0),), [(0, 0), (0, 1)], ((0, 1), (0, 0)), ((0, False), (0, True)), ((0, 0), [0, 1]),
                    ((0, 2), (0, 3)), (0, 1)):
            with self.assertRaises(BadLot):
                access_for(kernel, 2, 2, lot)

    def test_too_many(self):
        body = (("put", ("s", (LANE,)), "x"),)
        for name in "klm":
            body = (("short", name, 8, body),)
        many = tiled_kernel((LET,) + body, lanes=(2, 8), sizes=(("n", (0, 1, 2)),))
        for call in (lambda: lots(many, 4, 2), lambda: access_for(many, 4, 2, ()), lambda: clash(many, "s", 2, 4, ("padded", 0)),
                     lambda: worst(many, "s", 2, 4, ("padded", 0)), lambda: paddings(many, "s", 2, 4), lambda: turnings(many, "s", 2, 4)):
            with self.assertRaises(TooMany) as caught:
                call()
            self.assertEqual(caught.exception.most, 20000)
        with self.assertRaises(BadLaying):
            clash(many, "s", 2, 4, None)

    def test_by_hand(self):
        kernel = square_kernel()
        rows = [tuple((y, x) for x in range(4)) for y in range(4)]
        columns = [tuple((y, x) for y in range(4)) for x in range(4)]
        self.assertEqual((lots(kernel, 1, 4), lots(kernel, 3, 4)), (rows, columns))
        self.assertEqual(lots(kernel, 1, 1), [((y, x),) for y in range(4) for x in range(4)])
        self.assertEqual(lots(kernel, 1, 16), [tuple((y, x) for y in range(4) for x in range(4))])
        self.assertEqual(access_for(kernel, 3, 4, columns[2]), ({}, B, 2, ()))
        self.assertEqual(lot_of(kernel, 3, 4, ({}, B, 2, ())), columns[2])

    def test_beyond_and_equal_cells(self):
        kernel = tiled_kernel((LET, ("put", ("s", (("plus", LANE, ("is", 4)),)), "x"), ("put", ("s", (("is", 3),)), "x"),
                               ("put", ("v", (L0, ("is", 7))), "x")))
        # Of the lanes 0 to 3 just the first two come to one of the six cells.
        self.assertEqual(lots(kernel, 1, 4), [((0, 4), (0, 5))])
        self.assertEqual(lots(kernel, 1, 2), [((0, 4), (0, 5))])
        self.assertEqual(lot_of(kernel, 1, 2, ({"n": (1, 0)}, B, 1, ())), ())
        self.assertEqual(lots(kernel, 2, 4), [((0, 3),)])
        self.assertEqual(lots(kernel, 3, 4), [])

    def test_lanes_that_are_never_there_together(self):
        # Lane 0 comes in the block 0 alone, lane 3 in all others.
        first = ("order", (BLOCK, ("is", 0)), (("none", None, 0), ("is", 0)))
        low, high = ("small", LANE, "same", ("is", 0)), ("small", LANE, "same", ("is", 3))
        guard = ("or", ("and", low, first), ("and", high, ("not", first)))
        kernel = tiled_kernel((LET, ("if", guard, (("put", ("s", (LANE,)), "x"),), ())))
        self.assertEqual(lots(kernel, 2, 4), [((0, 0),), ((0, 3),)])
        found = access_for(kernel, 2, 4, ((0, 3),))
        self.assertGreater(found[1][0], 0)
        one = tiled_kernel(kernel.body, promises=(("n", None, 1),))
        self.assertEqual(lots(one, 2, 4), [((0, 0),)])

    def test_gone_through(self):
        told = [0, 0]
        for kernel, widths in [made(seed) for seed in range(150)] + [made_access(seed) for seed in range(60)]:
            points = [point for point in places.deed_points(kernel) if places.array_at(kernel, point)[0] == "shared"]
            for width in widths:
                found = {point: lots(kernel, point, width) for point in points}
                for point, own in found.items():
                    self.assertEqual(own, sorted(own))
                    for one, other in itertools.permutations(own, 2):
                        self.assertFalse(set(one) <= set(other))
                    self.assertNotIn((), own)
                    for lot in own:
                        sizes, block, crew, turns = access = access_for(kernel, point, width, lot)
                        self.assertEqual(lot_of(kernel, point, width, access), lot)
                        self.assertEqual(list(sizes), sorted(sizes))
                        lanes = [lane for lane in itertools.product(range(kernel.lanes[0]), range(kernel.lanes[1]))
                                 if (lane[0] * kernel.lanes[1] + lane[1]) // width == crew]
                        self.assertTrue(any(is_there(kernel, sizes, (point, block, lane, turns)) for lane in lanes))
                        told[len(own) > 1] += 1
                for sizes in samples.all_sizes_up_to(kernel, 2):
                    for (point, block, crew, turns), lot in plain_accesses(kernel, width, sizes).items():
                        self.assertEqual(lot_of(kernel, point, width, (sizes, block, crew, turns)), lot)
                        self.assertTrue(not lot or any(set(lot) <= set(own) for own in found[point]))
        self.assertGreater(min(told), 300)


class Turns(unittest.TestCase):
    def test_errors_in_order(self):
        for thing in samples.NO_KERNELS:
            for call in (lambda: clash(thing, None, None, None, None), lambda: worst(thing, None, None, None, None),
                         lambda: turns_taken(thing, None, None, None, None), lambda: paddings(thing, None, None, None),
                         lambda: turnings(thing, None, None, None)):
                with self.assertRaises(BadKernel):
                    call()
        kernel = tiled_kernel((LET, ("put", ("s", (LANE,)), "x")))
        for array in (None, "a", "b", "", 5, ["s"], ("s",), True):
            for call in (lambda: clash(kernel, array, None, None, None), lambda: worst(kernel, array, None, None, None),
                         lambda: paddings(kernel, array, None, None), lambda: turnings(kernel, array, None, None)):
                with self.assertRaises(BadArray):
                    call()
        for sizes in samples.NO_SIZES_AT:
            with self.assertRaises(BadSizesAt):
                turns_taken(kernel, sizes, None, None, None)
        sizes = {"n": (2, 0)}
        for width in BAD_WIDTHS:
            for call in (lambda: clash(kernel, "s", width, None, None), lambda: worst(kernel, "s", width, None, None),
                         lambda: turns_taken(kernel, sizes, width, None, None), lambda: paddings(kernel, "s", width, None),
                         lambda: turnings(kernel, "s", width, None)):
                with self.assertRaises(BadWidth):
                    call()
        for banks in BAD_BANKS:
            for call in (lambda: clash(kernel, "s", 2, banks, None), lambda: worst(kernel, "s", 2, banks, None),
                         lambda: turns_taken(kernel, sizes, 2, banks, None), lambda: paddings(kernel, "s", 2, banks),
                         lambda: turnings(kernel, "s", 2, banks)):
                with self.assertRaises(BadBanks):
                    call()
        for laying in (None, ("padded", 32), ("listed", (0,) * 5), ("listed", (4,) * 6), ("padded", True), ["padded", 0]):
            for call in (lambda: clash(kernel, "s", 2, 4, laying), lambda: worst(kernel, "s", 2, 4, laying),
                         lambda: turns_taken(kernel, sizes, 2, 4, {"s": laying, "v": ("padded", 0)}),
                         lambda: turns_taken(kernel, sizes, 2, 4, {"s": ("padded", 0), "v": laying})):
                with self.assertRaises(BadLaying):
                    call()
        plain = ("padded", 0)
        for layings in (None, 5, [], {}, {"s": plain}, {"s": plain, "v": plain, "a": plain}, {"s": plain, "b": plain}, (plain, plain)):
            with self.assertRaises(BadLaying):
                turns_taken(kernel, sizes, 2, 4, layings)

    def test_too_many(self):
        kernel = tiled_kernel((LET, ("put", ("s", (LANE,)), "x")), promises=())
        layings = {"s": ("padded", 0), "v": ("padded", 0)}
        self.assertEqual(turns_taken(kernel, {"n": (5000, 0)}, 4, 4, layings), 5000)
        with self.assertRaises(TooMany) as caught:
            turns_taken(kernel, {"n": (5001, 0)}, 4, 4, layings)
        self.assertEqual(caught.exception.most, 20000)
        with self.assertRaises(BadLaying):
            turns_taken(kernel, {"n": (5001, 0)}, 4, 4, {})

    def test_example(self):
        kernel = square_kernel()
        column = tuple((y, 0) for y in range(4))
        wanted = {0: (3, column, (0, 0), (1, 0)), 1: None, 2: (3, column, (0, 0), (2, 0)), 3: None}
        self.assertEqual(list(paddings(kernel, "s", 4, 4).items()), list(wanted.items()))
        self.assertEqual(list(turnings(kernel, "s", 4, 4).items()), list(wanted.items()))
        self.assertEqual([worst(kernel, "s", 4, 4, ("padded", p)) for p in range(4)], [4, 1, 2, 1])
        self.assertEqual(clash(kernel, "s", 4, 4, ("turned", 2)), wanted[2])
        self.assertEqual([turns_taken(kernel, {}, 4, 4, {"s": ("padded", p)}) for p in range(4)], [20, 8, 12, 8])

    def test_other_arrays_do_not_count(self):
        kernel = tiled_kernel((LET, ("put", ("s", (LANE,)), "x"), ("put", ("a", ((BLOCK, LANE),)), "x"), ("add", ("v", (("is", 1), LANE)), "x")))
        self.assertIsNone(clash(kernel, "s", 4, 4, ("padded", 0)))
        self.assertEqual(clash(kernel, "v", 4, 2, ("padded", 0)), (3, ((1, 0), (1, 1), (1, 2)), (1, 0), (1, 2)))
        self.assertEqual((worst(kernel, "s", 4, 2, ("padded", 0)), worst(kernel, "v", 4, 2, ("padded", 0))), (2, 2))
        unused = tiled_kernel((LET,))
        self.assertIsNone(clash(unused, "s", 4, 1, ("padded", 0)))
        self.assertEqual(worst(unused, "s", 4, 1, ("padded", 0)), 0)
        self.assertEqual(paddings(unused, "s", 4, 3), {0: None, 1: None, 2: None})
        self.assertEqual(turnings(unused, "v", 4, 3), {0: None, 1: None, 2: None})
        self.assertEqual(list(turnings(unused, "s", 4, 3)), list(range(6)))

    def test_gone_through(self):
        told = [0, 0]
        r = random.Random(122)
        for kernel, widths in [made(seed) for seed in range(150)] + [made_access(seed) for seed in range(50)]:
            arrays = {name: counts for sort, name, counts in kernel.arrays if sort == "shared"}
            width, banks = r.choice(widths[1:]), r.choice((1, 2, 3, 4, 8))
            layings = {name: r.choice((("padded", r.randint(0, 4)), ("turned", r.randint(0, 4)),
                                       ("listed", tuple(r.randrange(banks) for _ in cells_of(arrays[name]))))) for name in arrays}
            most = {name: 0 for name in arrays}
            for sizes in samples.all_sizes_up_to(kernel, 2):
                total = 0
                for (point, _, _, _), lot in plain_accesses(kernel, width, sizes).items():
                    _, name, counts = places.array_at(kernel, point)
                    own = plain_cost(counts, banks, layings[name], lot)
                    most[name] = max(most[name], own)
                    total += own
                self.assertEqual(turns_taken(kernel, sizes, width, banks, layings), total)
            for name in arrays:
                every = []
                for point in places.deed_points(kernel):
                    if places.array_at(kernel, point)[1] == name:
                        for lot in lots(kernel, point, width):
                            every += [(point, lot) + pair for pair in itertools.combinations(lot, 2)
                                      if len({plain_bank(arrays[name], banks, layings[name], cell) for cell in pair}) == 1]
                found = clash(kernel, name, width, banks, layings[name])
                self.assertEqual(found, min(every, default=None))
                told[found is None] += 1
                number = worst(kernel, name, width, banks, layings[name])
                self.assertGreaterEqual(number, most[name])
                self.assertEqual(found is None, number <= 1)
                if number > most[name]:
                    # It is taken at larger sizes: an access shows it.
                    costs = [plain_cost(arrays[name], banks, layings[name], lot_of(kernel, point, width, access_for(kernel, point, width, lot)))
                             for point in places.deed_points(kernel) if places.array_at(kernel, point)[1] == name
                             for lot in lots(kernel, point, width)]
                    self.assertEqual(max(costs), number)
                padded, turned = paddings(kernel, name, width, banks), turnings(kernel, name, width, banks)
                self.assertEqual(padded, {p: clash(kernel, name, width, banks, ("padded", p)) for p in range(banks)})
                self.assertEqual(turned, {m: clash(kernel, name, width, banks, ("turned", m)) for m in range(arrays[name][-1])})
        self.assertTrue(min(told) > 30, told)

    def test_results_are_new(self):
        kernel = square_kernel()
        lots(kernel, 1, 4).clear()
        paddings(kernel, "s", 4, 4).clear()
        access = access_for(tiled_kernel((LET, ("put", ("s", (LANE,)), "x"))), 1, 4, ((0, 0), (0, 1), (0, 2), (0, 3)))
        self.assertEqual(access, ({"n": (1, 0)}, B, 0, ()))
        self.assertEqual(len(lots(kernel, 1, 4)), 4)


if __name__ == "__main__":
    unittest.main()
