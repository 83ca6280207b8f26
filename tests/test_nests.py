"""Point [130]: nests, their pieces, and lines of deeds."""

import itertools
import unittest

import nestery
from nestery import EXAMPLE, ZERO, at, bare, nest_of, tiles, turn
from samples import NO_KERNELS, NO_SIZES_AT, all_sizes_up_to
from lanesmeet.errors import BadLine, BadNest, BadSizesAt, TooMany
from lanesmeet.kernels import Kernel
from lanesmeet.machine import outcome_of
from lanesmeet.nests import is_nest, outcome_along, pieces_of

SINGLE = nestery.SINGLE
LET = ("let", "x", "f", ())
PUT = ("put", at("a", bare(0)), "x")
TAKE = ("take", "x", at("a", bare(0)))


def kernel_with(body, **change):
    told = {"width": 1, "lanes": (1, 1), "blocks": (SINGLE, SINGLE), "sizes": (("n", (0,)),), "promises": (),
            "arrays": (("far", "a", ("n",)),), "body": body}
    return Kernel(**{**told, **change})


class Nests(unittest.TestCase):
    def test_what_is_no_nest(self):
        for thing in NO_KERNELS + (True, [EXAMPLE]):
            self.assertIs(is_nest(thing), False)
        good = (LET, PUT)
        self.assertIs(is_nest(kernel_with(good)), True)
        self.assertIs(is_nest(kernel_with(())), True)
        for change in ({"width": 2}, {"lanes": (1, 2)}, {"lanes": (2, 1)}, {"blocks": (("none", None, 2), SINGLE)},
                       {"blocks": (SINGLE, ("none", None, 2))}, {"blocks": (("tiles", "n", 0), SINGLE)},
                       {"promises": (("n", None, 3),)},
                       {"arrays": (("far", "a", ("n",)), ("shared", "s", (1,)))}):
            self.assertIs(is_nest(kernel_with(good, **change)), False, change)

    def test_what_may_stand_in_a_nest(self):
        inner = ("long", "i", bare(0), tiles("n"), (LET, PUT))
        guard = ("small", ("is", 1), "less", ("rest", "n"))
        for body in ((inner,), (LET, PUT, LET, PUT), (TAKE, ("let", "y", "f", ("x",)), ("add", PUT[1], "y")),
                     (("if", guard, (LET, PUT), (inner,)), inner), (("long", "i", bare(0), tiles("n"), ()),),
                     (("if", guard, (), ()),), (LET, PUT, inner, LET, PUT)):
            self.assertIs(is_nest(kernel_with(body)), True, body)

    def test_what_may_not_stand_in_a_nest(self):
        guard = ("small", ("is", 1), "less", ("lane", 0))
        left = ("small", ("lane", 0), "less", ("is", 1))
        block = ("order", (("block", 0, 0), ZERO), (bare(0), ZERO))
        within = ("not", ("and", ("within", (bare(0), ("plus", ("lane", 1), ("is", 0))), "n"), ("small", ZERO, "less", ZERO)))
        for body in ((LET,), (LET, PUT, LET), (LET, PUT, PUT), (TAKE, ("let", "y", "f", ("x",))),
                     (LET, ("long", "i", bare(0), tiles("n"), (PUT,))),
                     (LET, ("long", "i", bare(0), tiles("n"), ()), PUT), (LET, ("if", guard, (), ()), PUT),
                     (LET, PUT, ("put", PUT[1], "x")), (LET, PUT, ("let", "y", "f", ("x",)), ("put", PUT[1], "y")),
                     (("short", "k", 2, (LET, PUT)),), (("meet",),), (LET, ("meet",), PUT), (LET, PUT, ("meet",)),
                     (("if", guard, (LET, PUT), ()),), (("if", left, (LET, PUT), ()),), (("if", block, (LET, PUT), ()),),
                     (("if", within, (LET, PUT), ()),), (("long", "i", ("block", 0, 0), tiles("n"), (LET, PUT)),),
                     (("long", "i", bare(0), ("block", 1, 0), (LET, PUT)),),
                     (LET, ("put", ("a", ((bare(0), ("lane", 0)),)), "x")), (LET, ("put", at("a", ("block", 0, 0)), "x")),
                     (("take", "x", ("a", ((bare(0), ("minus", ("is", 1), ("lane", 1))),))), PUT)):
            self.assertIs(is_nest(kernel_with(body)), False, body)

    def test_names_like_lane_are_names(self):
        self.assertIs(is_nest(nest_of("n", (("lane", "n"),), (("let", "lane", "lane", ()),
                                                             ("put", at("lane", bare(0)), "lane")))), True)

    def test_pieces(self):
        for thing in NO_KERNELS + (kernel_with((LET,)), kernel_with((LET, PUT), width=2)):
            with self.assertRaises(BadNest):
                pieces_of(thing)
        self.assertEqual(pieces_of(EXAMPLE), (3, 6))
        self.assertEqual(pieces_of(kernel_with(())), ())
        nest = kernel_with((LET, PUT, ("if", ("small", ZERO, "less", ZERO), (LET, PUT), (LET, PUT)), LET, PUT))
        self.assertEqual(pieces_of(nest), (1, 4, 6, 8))

    def test_errors_of_lines_in_order(self):
        for thing in NO_KERNELS:
            with self.assertRaises(BadNest):
                outcome_along(thing, {"n": (1, 0)}, None)
        for thing in NO_SIZES_AT + ({"n": (1, 1)},):
            if thing == {"n": (9, 0)}:
                continue
            with self.assertRaises(BadSizesAt):
                outcome_along(EXAMPLE, thing, None)
        deeds = nestery.deeds_at(EXAMPLE, {"n": (2, 0)})
        long = nest_of("n", (("a", "n"),), (("long", "i", bare(0), tiles("n"), (LET, PUT)),))
        with self.assertRaises(TooMany) as caught:
            outcome_along(long, {"n": (20001, 0)}, [])
        self.assertEqual(caught.exception.most, 20000)
        with self.assertRaises(BadLine):
            outcome_along(long, {"n": (20001, 0)}, None)
        one = deeds[0]
        for line in (None, 5, {}, "line", deeds[:-1], deeds + [one], [one] * len(deeds), deeds[:-1] + [None],
                     deeds[:-1] + [list(deeds[-1])], [(1, (0, 0), (0, 0), (True,))] + deeds[1:],
                     [(True, (0, 0), (0, 0), (1,))] + deeds[1:], [(1, (0, False), (0, 0), (1,))] + deeds[1:]):
            with self.assertRaises(BadLine):
                outcome_along(EXAMPLE, {"n": (2, 0)}, line)

    def test_a_line_by_hand(self):
        sizes = {"n": (2, 0)}
        deeds = nestery.deeds_at(EXAMPLE, sizes)
        self.assertEqual([(one[0], one[3]) for one in deeds],
                         [(1, (1,)), (3, (1,)), (5, (0,)), (6, (0,)), (5, (1,)), (6, (1,))])
        one, put, first, copy, second, later = deeds
        line = (second, later, first, copy, put, one)
        end, met, cells = outcome_along(EXAMPLE, sizes, line)
        self.assertEqual(end, "done")
        self.assertEqual(met, {one: (None, ()), put: (None, ()), first: (None, ()), copy: (None, ()),
                               second: (None, ()), later: (None, ())})
        self.assertEqual(list(met), sorted(met))
        self.assertEqual(cells, {("a", ((1, 0),)): (put, ()), ("b", ((0, 0),)): (copy, ()), ("b", ((1, 0),)): (later, ())})
        self.assertEqual(list(cells), sorted(cells))
        _, met, _ = outcome_along(EXAMPLE, sizes, deeds)
        self.assertEqual(met[second], (put, ()))

    def test_adds_are_ascending(self):
        nest = nest_of("n", (("a", "n"),), (("long", "i", bare(0), tiles("n"), (LET, ("add", at("a", bare(0)), "x"))),))
        deeds = nestery.deeds_at(nest, {"n": (3, 0)})
        _, met, cells = outcome_along(nest, {"n": (3, 0)}, deeds[::-1])
        self.assertEqual((met, cells), ({}, {("a", ((0, 0),)): (None, tuple(deeds))}))

    def test_the_nests_own_line(self):
        for seed in range(40):
            nest = nestery.made_nest(seed)
            for sizes in all_sizes_up_to(nest, 2):
                self.assertEqual(outcome_along(nest, sizes, nestery.deeds_at(nest, sizes)), outcome_of(nest, sizes, []))

    def test_heart(self):
        """Two lines have one outcome exactly if any two deeds that cross stand in the same order in both."""
        unlike = 0
        for seed in range(60):
            nest = nestery.made_nest(seed, loops=2, pieces=2)
            for sizes in all_sizes_up_to(nest, 2):
                crossing = nestery.Crossing(nest, sizes)
                if not 1 < len(crossing.deeds) <= 5:
                    continue
                pairs = list(crossing.pairs())
                known = {}
                for line in itertools.permutations(crossing.deeds):
                    key = tuple(line.index(one) < line.index(other) for one, other in pairs)
                    known.setdefault(key, []).append(outcome_along(nest, sizes, line))
                found = [outcomes[0] for outcomes in known.values()]
                self.assertTrue(all(own == outcomes[0] for outcomes in known.values() for own in outcomes))
                for one, other in itertools.combinations(found, 2):
                    self.assertNotEqual(one, other)
                unlike += len(found) > 1
        self.assertGreater(unlike, 10)


if __name__ == "__main__":
    unittest.main()
