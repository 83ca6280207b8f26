"""Point [103]: rows of crews, and their sums for all sizes."""

import unittest

import runs
import samples
from lanesmeet.binomials import poly_at
from lanesmeet.costs import idle_sums, issued_sums, rows_at
from lanesmeet.differences import is_system
from lanesmeet.errors import BadKernel, BadSizesAt, BadWidth, TooMany
from lanesmeet.kernels import Kernel
from lanesmeet.told import worth

ONE = samples.ONE
B = (0, 0)
LANE = ("lane", 1)
BLOCK = ("block", 0, 0)
LET = ("let", "w", "f", ())
BAD_WIDTHS = (None, 0, 3, 5, 8, -1, True, "2", (2,), [2])


def kernel_of(body, **change):
    told = {"width": 4, "lanes": (1, 4), "blocks": (("tiles", "n", 0), ONE), "sizes": (("n", (0, 1)),),
            "promises": (), "arrays": (("far", "a", ("n",)), ("shared", "s", (4,))), "body": body}
    return Kernel(**{**told, **change})


def crew(kernel, width, lane):
    return (lane[0] * kernel.lanes[1] + lane[1]) // width


def widths_of(kernel):
    count = kernel.lanes[0] * kernel.lanes[1]
    return [width for width in range(1, count + 1) if count % width == 0]


def plain_rows(kernel, width, sizes):
    found = {}
    for (block, lane), done in runs.Plain(kernel, sizes).lists.items():
        for one in done:
            found.setdefault((block, crew(kernel, width, lane), (one[0], one[3])), set()).add(lane)
    return {row: tuple(sorted(found[row])) for row in sorted(found)}


def made(seed):
    return samples.made_kernel(seed, many=8, lane_pairs=((1, 1), (1, 2), (2, 2), (1, 4), (2, 4), (1, 6)))


class Rows(unittest.TestCase):
    def test_errors_in_order(self):
        for thing in samples.NO_KERNELS:
            for call in (lambda: rows_at(thing, None, None), lambda: issued_sums(thing, None), lambda: idle_sums(thing, None)):
                with self.assertRaises(BadKernel):
                    call()
        kernel = kernel_of((LET,), promises=(("n", None, 8),))
        for width in BAD_WIDTHS:
            for call in (lambda: rows_at(kernel, width, None), lambda: issued_sums(kernel, width), lambda: idle_sums(kernel, width)):
                with self.assertRaises(BadWidth):
                    call()
        for sizes in samples.NO_SIZES_AT:
            with self.assertRaises(BadSizesAt):
                rows_at(kernel, 2, sizes)

    def test_too_many(self):
        kernel = Kernel(1, (1, 2), (("tiles", "n", 0), ONE), (("n", (0,)),), (), (), (("meet",), ("meet",)))
        with self.assertRaises(TooMany) as caught:
            rows_at(kernel, 2, {"n": (5001, 0)})
        self.assertEqual(caught.exception.most, 20000)
        self.assertEqual(len(rows_at(kernel, 2, {"n": (5000, 0)})), 10000)
        self.assertEqual(worth(issued_sums(kernel, 2)[(0,)], {"tiles n": 999999999}), 1999999998)
        body = (("meet",),)
        for name in "klm":
            body = (("short", name, 8, body),)
        many = kernel_of(body, lanes=(2, 8), sizes=(("n", (0, 1, 2)),))
        for call in (issued_sums, idle_sums):
            with self.assertRaises(TooMany) as caught:
                call(many, 4)
            self.assertEqual(caught.exception.most, 20000)
            with self.assertRaises(BadWidth):
                call(many, 5)

    def test_too_many_together(self):
        body = (("meet",), ("meet",), ("meet",))
        for name in "klm":
            body = (("short", name, 8, body),)
        many = kernel_of(body, lanes=(2, 8), sizes=(("n", (0,)),))
        for call in (issued_sums, idle_sums):
            with self.assertRaises(TooMany):
                call(many, 4)

    def test_by_hand(self):
        low = ("small", LANE, "less", ("is", 3))
        kernel = kernel_of((LET, ("take", "x", ("a", ((BLOCK, LANE),))), ("if", low, (("put", ("s", (LANE,)), "x"),), ()), ("meet",)))
        lanes = [(0, at) for at in range(4)]
        self.assertEqual(rows_at(kernel, 2, {"n": (1, 0)}), {
            (B, 0, (1, ())): tuple(lanes[:2]), (B, 0, (3, ())): tuple(lanes[:2]), (B, 0, (4, ())): tuple(lanes[:2]),
            (B, 1, (1, ())): tuple(lanes[2:]), (B, 1, (3, ())): (lanes[2],), (B, 1, (4, ())): tuple(lanes[2:])})
        self.assertEqual(rows_at(kernel, 2, {"n": (0, 1)}), {})
        self.assertEqual(list(issued_sums(kernel, 4)), [(0,), (1,)])
        for rests in ((0,), (1,)):
            for tiles in (0, 1, 2, 5, 123456789):
                values = {"tiles n": tiles}
                self.assertEqual([worth(issued_sums(kernel, width)[rests], values) for width in (1, 2, 4)],
                                 [11 * tiles, 6 * tiles, 3 * tiles])
                self.assertEqual([worth(idle_sums(kernel, width)[rests], values) for width in (1, 2, 4)], [0, tiles, tiles])

    def test_no_sizes(self):
        kernel = kernel_of((("meet",),), sizes=(), blocks=(ONE, ("none", None, 3)), promises=(), arrays=())
        found = issued_sums(kernel, 2)
        self.assertEqual(list(found), [()])
        self.assertEqual(worth(found[()], {}), 6)

    def test_two_sides_are_one_row(self):
        # Whether a lane comes by this part or by that one, it comes once.
        spot = (("turn", "t", 0), ("is", 0))
        either = ("or", ("order", spot, (BLOCK, LANE)), ("order", (BLOCK, ("is", 0)), spot))
        loop = ("long", "t", ("none", None, 0), ("tiles", "n", 0), (("if", either, (("meet",),), ()),))
        kernel = kernel_of((loop,))
        self.assertEqual(worth(issued_sums(kernel, 4)[(0,)], {"tiles n": 1000}), 1000 * 1000)

    def test_loops_in_loops(self):
        inner = ("long", "u", ("turn", "t", 1), ("tiles", "n", 0), (("short", "k", 3, (("meet",),)),))
        kernel = kernel_of((("long", "t", BLOCK, ("tiles", "n", 0), (inner,)),))
        # As many as there are three numbers b <= t < u below n.
        for tiles in (0, 1, 2, 3, 7, 10 ** 8):
            many = tiles * (tiles - 1) // 2 + tiles * (tiles - 1) * (tiles - 2) // 6
            self.assertEqual(worth(issued_sums(kernel, 1)[(1,)], {"tiles n": tiles}), 12 * many)
            self.assertEqual(worth(issued_sums(kernel, 4)[(1,)], {"tiles n": tiles}), 3 * many)

    def test_gone_through(self):
        told = 0
        for seed in range(200):
            kernel = made(seed)
            for width in widths_of(kernel):
                issued, idle = issued_sums(kernel, width), idle_sums(kernel, width)
                for sizes in samples.all_sizes_up_to(kernel, 3):
                    rows = rows_at(kernel, width, sizes)
                    wanted = plain_rows(kernel, width, sizes)
                    self.assertEqual(list(rows.items()), list(wanted.items()))
                    rests = tuple(sizes[name][1] for name, _ in kernel.sizes)
                    values = samples.numbers_at(sizes)
                    self.assertEqual(worth(issued[rests], values), len(rows), (seed, width, sizes))
                    self.assertEqual(worth(idle[rests], values), sum(width - len(mask) for mask in rows.values()))
                    told += len(rows) > 0
        self.assertGreater(told, 1000)

    def test_told_sums(self):
        for seed in range(100):
            kernel = made(seed)
            names = {"tiles " + name for name, _ in kernel.sizes}
            for found in (issued_sums(kernel, 1), idle_sums(kernel, widths_of(kernel)[-1])):
                self.assertEqual(list(found), sorted(found))
                self.assertEqual(len(found), len({rests for rests in found}))
                for told in found.values():
                    for system, poly in told:
                        self.assertTrue(is_system(system))
                        self.assertLessEqual({name for row in system for name in row[:2]} - {None}, names)
                        poly_at(poly, dict.fromkeys(names, 1))
                    told.clear()
            again = issued_sums(kernel, 1)
            self.assertEqual(sorted(again), sorted(found))

    def test_results_are_new(self):
        kernel = kernel_of((("meet",),))
        for told in issued_sums(kernel, 2).values():
            told[0][0].clear()
            told[0][1].clear()
        self.assertEqual(worth(issued_sums(kernel, 2)[(0,)], {"tiles n": 5}), 10)
        rows_at(kernel, 2, {"n": (1, 0)}).clear()
        self.assertEqual(len(rows_at(kernel, 2, {"n": (1, 0)})), 2)


if __name__ == "__main__":
    unittest.main()
