"""Point [143]: how many rounds heights want, and nests in rounds."""

import itertools
import unittest

import nestery
from nestery import EXAMPLE, Crossing, at, bare, deeds_at, doing_of, nest_of, tiles, turn
from samples import NO_KERNELS, NO_SIZES_AT, all_sizes_up_to
from test_changes import outcome_told
from test_heights import bases_of, number_of, with_more
from lanesmeet.carries import carries, free_loops
from lanesmeet.errors import (
    BadHeights, BadName, BadNest, BadSizesAt, NotBounded, NotRising, TooDeep, TooMany)
from lanesmeet.heights import fall, lifts
from lanesmeet.judge import judge
from lanesmeet.machine import outcome_of
from lanesmeet.maps import is_map
from lanesmeet.nests import is_nest, pieces_of
from lanesmeet.rounds import by_heights, chain_at, fewest_rounds, reach_of

LET = ("let", "x", "f", ())
GOOD = {3: turn("i"), 6: turn("j", 1)}
NO_SIZE_NAMES = (5, True, "m", "i", "", ("n",), ["n"], "N")


def guard(low, name, more, high):
    return ("and", ("order", (low, ("is", 0)), (turn(name, -more), ("is", 0))),
            ("order", (turn(name, 1 - more), ("is", 0)), (high, ("is", 0))))


def longest_chain(nest, sizes):
    """How many doings the longest chain has, and the pairs of doings one of which may stand behind the other."""
    crossing = Crossing(nest, sizes)
    doings = list(dict.fromkeys(doing_of(nest, deed) for deed in crossing.deeds))
    pairs = {(doing_of(nest, one), doing_of(nest, other)) for one, other in crossing.pairs()}
    best = {}
    for at_, own in enumerate(doings):
        best[own] = 1 + max([best[other] for other in doings[:at_] if (other, own) in pairs], default=0)
    return max(best.values(), default=0), pairs


class Rounds(unittest.TestCase):
    def test_errors_in_order(self):
        for thing in NO_KERNELS:
            for call in (lambda: reach_of(thing, None, 5), lambda: fewest_rounds(thing, 5),
                         lambda: chain_at(thing, None), lambda: by_heights(thing, None, 5, 5)):
                with self.assertRaises(BadNest):
                    call()
        for thing in (None, {}, {3: turn("i")}, {3: turn("i"), 6: turn("i")}):
            with self.assertRaises(BadHeights):
                reach_of(EXAMPLE, thing, 5)
            with self.assertRaises(BadHeights):
                by_heights(EXAMPLE, thing, 5, 5)
        for name in NO_SIZE_NAMES:
            with self.assertRaises(BadName):
                reach_of(EXAMPLE, GOOD, name)
            with self.assertRaises(BadName):
                fewest_rounds(EXAMPLE, name)
            with self.assertRaises(BadName):
                by_heights(EXAMPLE, {3: bare(0), 6: bare(0)}, "r", name)
        for name in (None, 5, "", "i", "j", "R", "abcdefghi", "a b", ("r",)):
            with self.assertRaises(BadName):
                by_heights(EXAMPLE, {3: bare(0), 6: bare(0)}, name, "n")
        for thing in NO_SIZES_AT:
            if thing != {"n": (9, 0)}:
                with self.assertRaises(BadSizesAt):
                    chain_at(EXAMPLE, thing)
        with self.assertRaises(NotRising):
            by_heights(EXAMPLE, {3: turn("i"), 6: turn("j")}, "r", None)
        with self.assertRaises(NotBounded):
            by_heights(EXAMPLE, GOOD, "r", None)
        with self.assertRaises(NotBounded):
            by_heights(nest_of("n", (("a", "n"),), ()), {}, "r", "n")

    def test_a_name_of_an_empty_loop_is_one_of_a_loop(self):
        nest = nest_of("n", (("a", "n"),), (LET, ("put", at("a", bare(0)), "x"), ("long", "i", bare(0), bare(1), ())))
        with self.assertRaises(BadName):
            by_heights(nest, {1: bare(0)}, "i", "n")
        self.assertTrue(is_nest(by_heights(nest, {1: bare(0)}, "n", "n")[0]))

    def test_example(self):
        self.assertEqual(reach_of(EXAMPLE, GOOD, "n"), (1, 0))
        self.assertEqual(reach_of(EXAMPLE, GOOD, None), (1, None))
        number, heights = fewest_rounds(EXAMPLE, "n")
        self.assertEqual(number, 0)
        low, high = reach_of(EXAMPLE, heights, "n")
        self.assertEqual(high - low + 1, 0)
        self.assertIsNone(fall(EXAMPLE, heights))
        self.assertIsNone(fewest_rounds(EXAMPLE, None))
        chain = chain_at(EXAMPLE, {"n": (4, 0)})
        self.assertEqual([one[0] for one in chain], [3, 3, 3, 6])
        self.assertEqual(chain_at(EXAMPLE, {"n": (0, 0)}), ())

    def test_the_text_in_rounds(self):
        nest, chart = by_heights(EXAMPLE, GOOD, "r", "n")
        first = ("if", guard(bare(1), "r", 0, tiles("n")), (
            ("take", "x", at("a", turn("r", -1))), ("let", "y", "f", ("x",)), ("put", at("a", turn("r")), "y")), ())
        second = ("if", guard(bare(0), "r", 1, tiles("n")), (
            ("take", "x", at("a", turn("r", -1))), ("put", at("b", turn("r", -1)), "x")), ())
        self.assertEqual(nest.body, (("long", "r", bare(1), tiles("n", 1), (first, second)),))
        self.assertEqual([chart[0][point][0] for point in chart[0]], [1, 3, 5, 6])
        self.assertEqual(chart[1], {})

    def test_texts_with_ifs_and_heights_that_are_no_turns(self):
        test = ("order", (turn("i", 2), ("is", 0)), (turn("j", -1), ("is", 0)))
        nest = nest_of(("n", "m"), (("a", ("n", "m")),), (
            ("long", "i", bare(0), tiles("n"), (("long", "j", turn("i", 2), tiles("m"), (
                ("if", test, (LET, ("put", at("a", turn("i"), turn("j")), "x")),
                 (LET, ("put", at("a", turn("i"), turn("j")), "x"))),)),)),))
        heights = {4: turn("i", 3), 6: tiles("n", 5)}
        self.assertIsNone(fall(nest, heights))
        found, chart = by_heights(nest, heights, "r", "n")
        self.assertEqual(reach_of(nest, heights, "n"), (3, 5))
        inner = ("order", (turn("r", -1), ("is", 0)), (turn("j", -1), ("is", 0)))
        first = ("if", guard(bare(0), "r", 3, tiles("n")), (("long", "j", turn("r", -1), tiles("m"), (
            ("if", inner, (LET, ("put", at("a", turn("r", -3), turn("j")), "x")), ()),)),), ())
        now = (turn("r"), ("is", 0))
        own = (tiles("n", 5), ("is", 0))
        second = ("if", ("and", ("order", now, own), ("order", own, now)), (
            ("long", "i", bare(0), tiles("n"), (("long", "j", turn("i", 2), tiles("m"), (
                ("if", ("not", test), (LET, ("put", at("a", turn("i"), turn("j")), "x")), ()),)),)),), ())
        self.assertEqual(found.body, (("long", "r", bare(3), tiles("n", 6), (first, second)),))
        self.assertEqual(judge(nest, found, chart), ("alike",))

    def test_without_a_size(self):
        nest = nest_of("n", (("a", "n"),), (LET, ("put", at("a", bare(0)), "x"), LET, ("put", at("a", bare(0)), "x")))
        self.assertEqual(reach_of(nest, {1: bare(4), 3: bare(6)}, None), (4, 6))
        found, _ = by_heights(nest, {1: bare(4), 3: bare(6)}, "r", None)
        self.assertEqual(found.body[0][:4], ("long", "r", bare(4), bare(7)))
        self.assertEqual(fewest_rounds(nest, None)[0], 2)
        self.assertIsNone(fewest_rounds(nest_of("n", (("a", "n"),), ()), None))

    def test_too_deep(self):
        free = nest_of("nmo", (("a", "nm"),), (("long", "i", bare(0), tiles("n"), (("long", "j", bare(0), tiles("m"), (
            ("long", "k", bare(0), bare(1), (LET, ("put", at("a", turn("i"), turn("j")), "x"))),)),)),))
        own = pieces_of(free)[0]
        with self.assertRaises(TooDeep):
            by_heights(free, {own: bare(0)}, "r", "n")
        self.assertTrue(is_nest(by_heights(free, {own: turn("i")}, "r", "n")[0]))
        many = nest_of("n", (("a", "n"),), (LET, ("put", at("a", bare(0)), "x")) * 39)
        heights = {name: bare(at_) for at_, name in enumerate(pieces_of(many))}
        with self.assertRaises(TooDeep):
            by_heights(many, heights, "r", None)

    def test_too_many_choices(self):
        nest = nest_of("nmo", (("a", "n"),), (LET, ("put", at("a", bare(0)), "x")) * 7)
        self.assertEqual(fewest_rounds(nest, None)[0], 7)
        nest = nest_of("nmo", (("a", "n"),), (LET, ("put", at("a", bare(0)), "x")) * 8)
        with self.assertRaises(TooMany) as caught:
            fewest_rounds(nest, None)
        self.assertEqual(caught.exception.most, 20000)
        with self.assertRaises(BadName):
            fewest_rounds(nest, "p")
        wide = nestery.wide_nest()
        piece = pieces_of(wide)[0]
        for call in (lambda: reach_of(wide, {piece: turn("i")}, "n"), lambda: fewest_rounds(wide, "n"),
                     lambda: by_heights(wide, {piece: turn("i")}, "r", "n")):
            with self.assertRaises(TooMany):
                call()
        long = nest_of("n", (("a", "n"),), (("long", "i", bare(0), tiles("n"), (LET, ("put", at("a", bare(0)), "x"))),))
        with self.assertRaises(TooMany):
            chain_at(long, {"n": (20001, 0)})

    def test_a_chain_by_hand(self):
        def piece(put, *takes):
            read = tuple(("take", "xyz"[at_], at("a", bare(cell))) for at_, cell in enumerate(takes))
            return (read or (LET,)) + (("put", at("a", bare(put)), "x"),)

        # Of the takes from cell 5 the first one has the longer chain.
        nest = nest_of("n", (("a", "n"),), piece(0) + piece(1, 0) + piece(2, 1, 5) + piece(3, 5) + piece(5))
        names = pieces_of(nest)
        chain = chain_at(nest, {"n": (9, 0)})
        self.assertEqual([one[0] for one in chain], [names[0], names[1], names[2], names[4]])

    def test_just_so_many_choices(self):
        def loop(name, *block):
            return ("long", name, bare(0), bare(1), block)

        piece = (LET, ("add", at("a", bare(0)), "x"))
        body = (loop("i", loop("j", loop("k", *(piece * 4)), *(piece * 2))),) + piece
        number, heights = fewest_rounds(nest_of("n", (("a", "n"),), body), None)
        self.assertEqual((number, len(heights)), (1, 7))
        with self.assertRaises(TooMany):
            fewest_rounds(nest_of("n", (("a", "n"),), body + piece), None)

    def test_reach_and_chains_gone_through(self):
        for seed in range(30):
            nest = nestery.made_nest(seed)
            pieces = pieces_of(nest)
            sizes_list = list(all_sizes_up_to(nest, 4 if len(nest.sizes) == 1 else 3))
            for sizes in sizes_list:
                many, pairs = longest_chain(nest, sizes)
                chain = chain_at(nest, sizes)
                self.assertEqual(len(chain), many)
                for one in chain:
                    self.assertIn(one[0], pieces)
                    self.assertIn(one, deeds_at(nest, sizes))
                for one, other in zip(chain, chain[1:]):
                    self.assertIn((doing_of(nest, one), doing_of(nest, other)), pairs)
            for bases in itertools.islice(itertools.product(*[bases_of(nest, piece) for piece in pieces]), 12):
                heights = {piece: with_more(base, at_) for at_, (piece, base) in enumerate(zip(pieces, bases))}
                for size in (None,) + tuple(name for name, _ in nest.sizes):
                    self.check_reach(nest, heights, size, sizes_list)

    def check_reach(self, nest, heights, size, sizes_list):
        low, high = reach_of(nest, heights, size)
        for sizes in sizes_list:
            numbers = [number_of(heights[doing_of(nest, deed)[0]], nest, sizes, deed) for deed in deeds_at(nest, sizes)]
            more = 0 if size is None else sizes[size][0]
            for number in numbers:
                self.assertGreaterEqual(number, low)
                if high is not None:
                    self.assertLessEqual(number, more + high)

    def test_fewest_rounds_gone_through(self):
        exact = 0
        for seed in range(16):
            nest = nestery.made_nest(seed, pieces=2)
            pieces = pieces_of(nest)
            for size in (None,) + tuple(name for name, _ in nest.sizes):
                told = fewest_rounds(nest, size)
                best = None
                for bases in itertools.product(*[bases_of(nest, piece) for piece in pieces]):
                    word, heights = lifts(nest, dict(zip(pieces, bases)))
                    for more in range(-2, 3) if word == "heights" and len(pieces) > 1 else ():
                        own = {**heights, pieces[-1]: with_more(heights[pieces[-1]], more)}
                        low, high = reach_of(nest, own, size)
                        if low is not None and high is not None and (best is None or high - low + 1 < best):
                            best = high - low + 1 if fall(nest, own) is None else best
                    if word == "heights" and len(pieces) == 1:
                        low, high = reach_of(nest, heights, size)
                        if low is not None and high is not None:
                            best = high - low + 1 if best is None else min(best, high - low + 1)
                if told is None:
                    self.assertIsNone(best)
                    continue
                number, heights = told
                low, high = reach_of(nest, heights, size)
                self.assertEqual((fall(nest, heights), high - low + 1), (None, number))
                self.assertTrue(best is None or number <= best, (seed, size))
                exact += number == best
                self.check_rounds(nest, heights, size)
        self.assertGreater(exact, 10)

    def check_rounds(self, nest, heights, size):
        """That the nest in rounds has the outcome of the nest, and what it says of carries, loops and chains."""
        try:
            found, chart = by_heights(nest, heights, "r", size)
        except TooDeep:
            return
        self.assertTrue(is_nest(found) and is_map(nest, found, chart))
        self.assertEqual(judge(nest, found, chart), ("alike",))
        for sizes in all_sizes_up_to(nest, 3 if len(nest.sizes) == 1 else 2):
            self.assertEqual(outcome_told(nest, found, chart, sizes), outcome_of(nest, sizes, []))
            numbers = {number_of(heights[doing_of(nest, deed)[0]], nest, sizes, deed) for deed in deeds_at(nest, sizes)}
            self.assertLessEqual(len(chain_at(nest, sizes)), len(numbers))
        pieces = pieces_of(found)
        for one, other, level in carries(found):
            same = min(name for name in pieces if name >= one) == min(name for name in pieces if name >= other)
            loops = [point for point, side in found.around(one) if side is None and (point, None) in found.around(other)]
            self.assertTrue(level == 0 or same and level == len(loops), (one, other, level))
        for point, statement in enumerate(found.statements):
            self.assertTrue(statement[0] != "long" or point == 0 or point in free_loops(found))


if __name__ == "__main__":
    unittest.main()
