"""Point [142]: heights of pieces, falls and lifts."""

import itertools
import unittest

import nestery
from nestery import EXAMPLE, Crossing, at, bare, doing_of, nest_of, tiles, turn
from samples import NO_KERNELS, all_sizes_up_to
from lanesmeet.carries import carries
from lanesmeet.errors import BadChoice, BadHeights, BadNest, TooMany
from lanesmeet.heights import drops_of, fall, lifts
from lanesmeet.nests import pieces_of


def number_of(height, nest, sizes, deed):
    if height[0] == "none":
        return height[2]
    if height[0] == "tiles":
        return sizes[height[1]][0] + height[2]
    return deed[3][[loop[1] for loop in nest.loops[deed[0]]].index(height[1])] + height[2]


def falls_at(nest, heights, sizes):
    """All pairs of deeds that cross, of unlike doings, of which the one ahead has no lesser number."""
    for one, other in Crossing(nest, sizes).pairs():
        first = doing_of(nest, one)
        second = doing_of(nest, other)
        if first != second:
            low = number_of(heights[first[0]], nest, sizes, one)
            if low >= number_of(heights[second[0]], nest, sizes, other):
                yield one, other


def bases_of(nest, piece):
    return [bare(0)] + [tiles(name) for name, _ in nest.sizes] + [turn(loop[1]) for loop in nest.loops[piece]]


def with_more(height, more):
    return height[:2] + (height[2] + more,)


class Heights(unittest.TestCase):
    def test_errors_in_order(self):
        good = {3: turn("i"), 6: turn("j")}
        for thing in NO_KERNELS:
            for one in (fall, lifts):
                with self.assertRaises(BadNest):
                    one(thing, None)
        wrong = (None, 5, [], {}, {3: turn("i")}, {3: turn("i"), 6: turn("j"), 7: turn("j")}, {3: turn("j"), 6: turn("j")},
                 {3: turn("i"), 6: None}, {3: turn("i"), 6: ["turn", "j", 0]}, {3: turn("i"), 6: ("turn", "j")},
                 {3: turn("i"), 6: ("tiles", "m", 0)}, {3: turn("i"), 6: ("block", 0, 0)}, {3: turn("i"), 6: bare(True)},
                 {3: turn("i"), 6: ("tiles", None, 0)}, {3: turn("i"), 5: turn("j")}, {"3": turn("i"), 6: turn("j")},
                 {3: turn("i"), 6: ("none", "n", 0)}, (good,), {3: turn("i"), 6: turn("k")})
        for thing in wrong:
            with self.assertRaises(BadHeights, msg=thing):
                fall(EXAMPLE, thing)
            with self.assertRaises(BadChoice, msg=thing):
                lifts(EXAMPLE, thing)
        for more in (1, -1):
            with self.assertRaises(BadChoice):
                lifts(EXAMPLE, {3: turn("i"), 6: turn("j", more)})
        single = nest_of("n", (("a", "n"),), (("let", "x", "f", ()), ("put", at("a", bare(0)), "x")))
        self.assertEqual(lifts(single, {1: bare(0)}), ("heights", {1: bare(0)}))
        with self.assertRaises(BadChoice):
            lifts(single, {True: bare(0)})
        with self.assertRaises(BadHeights):
            fall(single, {True: bare(0)})

    def test_example(self):
        self.assertEqual(lifts(EXAMPLE, {3: turn("i"), 6: turn("j")}), ("heights", {3: turn("i"), 6: turn("j", 1)}))
        self.assertEqual(lifts(EXAMPLE, {6: turn("j"), 3: bare(0)}), ("ring", ((3, 1, 0),)))
        self.assertEqual(lifts(EXAMPLE, {3: tiles("n"), 6: turn("j")}), ("open", (3, 5, 0)))
        self.assertIsNone(fall(EXAMPLE, {6: turn("j", 1), 3: turn("i")}))
        sizes, one, other = fall(EXAMPLE, {3: turn("i"), 6: turn("j")})
        self.assertEqual((one[0], other[0], one[3]), (3, 5, other[3]))
        self.assertIn((one, other), list(falls_at(EXAMPLE, {3: turn("i"), 6: turn("j")}, sizes)))

    def test_one_doing_may_cross_itself(self):
        nest = nest_of("n", (("a", "n"),), (("take", "x", at("a", bare(0))), ("put", at("a", bare(0)), "x")))
        self.assertEqual(carries(nest), ((0, 1, 0),))
        self.assertEqual(lifts(nest, {1: bare(0)}), ("heights", {1: bare(0)}))
        self.assertIsNone(fall(nest, {1: bare(7)}))

    def test_no_pieces(self):
        nest = nest_of("n", (("a", "n"),), ())
        self.assertEqual(lifts(nest, {}), ("heights", {}))
        self.assertIsNone(fall(nest, {}))

    def test_too_many(self):
        nest = nestery.wide_nest()
        piece = pieces_of(nest)[0]
        for one in (fall, lifts):
            with self.assertRaises(TooMany) as caught:
                one(nest, {piece: turn("i")})
            self.assertEqual(caught.exception.most, 20000)

    def test_gone_through(self):
        kinds = {}
        for seed in range(25):
            nest = nestery.made_nest(seed)
            pieces = pieces_of(nest)
            for bases in itertools.islice(itertools.product(*[bases_of(nest, piece) for piece in pieces]), 20):
                choice = dict(zip(pieces, bases))
                word, told = lifts(nest, choice)
                kinds[word] = kinds.get(word, 0) + 1
                if word == "heights":
                    self.check_least(nest, choice, told)
                else:
                    self.check_none_rise(nest, choice)
                if word == "ring":
                    self.check_ring(nest, choice, told)
                if word == "open":
                    self.assertIn(told, carries(nest))
        self.assertGreater(min(kinds.values()), 20)
        self.assertEqual(len(kinds), 3)

    def check_least(self, nest, choice, told):
        """That heights rise, and that no number can be one less."""
        self.assertEqual(list(told), list(pieces_of(nest)))
        self.assertEqual({piece: with_more(told[piece], -told[piece][2]) for piece in told}, choice)
        self.assertIsNone(fall(nest, told))
        for sizes in all_sizes_up_to(nest, 3 if len(nest.sizes) == 1 else 2):
            self.assertEqual(list(falls_at(nest, told, sizes)), [])
        for piece in told:
            self.assertGreaterEqual(told[piece][2], 0)
            if told[piece][2] > 0:
                less = {**told, piece: with_more(told[piece], -1)}
                sizes, one, other = fall(nest, less)
                self.assertIn((one, other), list(falls_at(nest, less, sizes)))

    def check_none_rise(self, nest, choice):
        """That heights with small numbers do not rise, as told by a pair of deeds."""
        for numbers in itertools.product(range(3), repeat=len(choice)):
            heights = {piece: with_more(choice[piece], more) for piece, more in zip(choice, numbers)}
            sizes, one, other = fall(nest, heights)
            self.assertIn((one, other), list(falls_at(nest, heights, sizes)))

    def check_ring(self, nest, choice, ring):
        """That the ring is one, and the first by its length and its steps."""
        pieces = pieces_of(nest)
        names = {point: min(name for name in pieces if name >= point) for carry in carries(nest) for point in carry[:2]}

        def level_of(carry):
            loops = [point for point, side in nest.around(carry[1]) if side is None]
            return len([point for point, side in nest.around(carry[0]) if side is None and point in loops])

        steps = [carry for carry in carries(nest)
                 if names[carry[0]] != names[carry[1]] or carry[2] < level_of(carry)]
        weights = {}
        for carry in steps:
            weights[carry] = drops_of(nest).drop_by(carry, choice)
            self.assertLessEqual(self.drop_by_going_through(nest, choice, carry, names), weights[carry])
        best = None
        for count in range(1, len(ring) + 1):
            for found in itertools.product(steps, repeat=count):
                closed = all(names[found[k][1]] == names[found[(k + 1) % count][0]] for k in range(count))
                if best is None and closed and sum(weights[carry] + 1 for carry in found) > 0:
                    best = found
        self.assertEqual(best, ring)

    def drop_by_going_through(self, nest, choice, carry, names):
        """The greatest difference of the bases of a carry's deeds at small sizes."""
        best = None
        for sizes in all_sizes_up_to(nest, 4 if len(nest.sizes) == 1 else 2):
            for one, other in Crossing(nest, sizes).pairs():
                if nestery.carry_of(nest, one, other) == carry:
                    own = (number_of(choice[names[carry[0]]], nest, sizes, one)
                           - number_of(choice[names[carry[1]]], nest, sizes, other))
                    best = own if best is None else max(best, own)
        return -100 if best is None else best


if __name__ == "__main__":
    unittest.main()
