"""Point [153]: what goes wrong with plans, and the fewest gaps."""

import itertools
import random
import unittest

import nestery
import planning
from nestery import EXAMPLE, ZERO, Crossing, at, bare, nest_of, tiles, turn
from samples import all_sizes_up_to
from lanesmeet.beside import meeting_between
from lanesmeet.errors import LaneError, Missed, TooMany, Torn
from lanesmeet.gaps import all_gaps, fewest_gaps
from lanesmeet.hits import is_hit_tree, least_hits
from lanesmeet.judge import judge
from lanesmeet.machine import Run
from lanesmeet.making import cut, made
from lanesmeet.meaning import cell_of
from lanesmeet.orders import two_orders
from lanesmeet.plans import Plan
from lanesmeet.races import race_region, races_at
from lanesmeet.stories import story, told
from lanesmeet.wrongs import missed, torn, wrong_region

LONE = ("none", None, 1)
BLOCKS = (LONE, LONE)
LET = ("let", "x", "f", ())


def stencil(array="b"):
    """The nest of the example: each cell of an array comes of two of a."""
    block = (("take", "x", at("a", turn("i", -1))), ("take", "y", at("a", turn("i"))), ("let", "z", "f", ("x", "y")),
             ("put", at(array, turn("i")), "z"))
    return nest_of("n", (("a", "n"), ("b", "n")), (("long", "i", bare(1), tiles("n"), block),))


def by_blocks(more, copies):
    return Plan(2, (1, 2), (LONE, ("tiles", "n", more)), {0: ("block", 1)}, (), copies)


def made_rows(r):
    """A nest of loops side by side, perhaps within another one, and a plan that gives lanes to them."""
    turns = r.random() < 0.7

    def loop(at_, name):
        # By turns each loop mostly takes what the one ahead of it has put.
        arrays = ("ab"[at_ % 2], "ab"[(at_ + 1) % 2]) if turns else (r.choice("ab"), r.choice("ab"))
        block = (("take", "x", at(arrays[0], turn(name, r.choice((0, 0, 1, -1))))), ("put", at(arrays[1], turn(name)), "x"))
        if r.random() < 0.2:
            block = block + (LET, (r.choice(("put", "add")), at(r.choice("ab"), turn(name, r.choice((0, 1)))), "x"))
        return ("long", name, bare(1), tiles("n", -1), block)

    body = tuple(loop(at_, name) for at_, name in enumerate("ijk"[:r.choice((1, 2, 2, 3))]))
    outer = r.random() < 0.3
    if outer:
        body = (("long", "t", bare(0), bare(r.choice((2, 3))), body),)
    nest = nest_of("n", (("a", "n"), ("b", "n")), body)
    roles = {point: ("lane", 1) for point, statement in enumerate(nest.statements) if statement[0] == "long"}
    if outer:
        roles[0] = ("turn",)
    if r.random() < 0.2:
        roles[max(roles)] = ("turn",)
    return nest, Plan(r.choice((2, 4)), (1, 2), BLOCKS, roles, (), ())


class Layout:
    """Where a plan puts each deed of a nest: block and lane, and the step of its piece, by the document's words."""

    def __init__(self, nest, plan, sizes):
        self.nest, self.plan, self.sizes = nest, plan, sizes
        self.crossing = Crossing(nest, sizes)
        self.counts = [form[2] + (sizes[form[1]][0] // plan.width if form[0] == "tiles" else 0) for form in plan.blocks]

    def spot(self, deed):
        block, lane, steps = [0, 0], [0, 0], []
        for (_, _, point), value in zip(self.nest.loops[deed[0]], deed[3]):
            role = self.plan.roles[point]
            tile, offset = value // self.plan.width, value % self.plan.width
            lanes = 1 if role == ("turn",) else self.plan.lanes[role[1]]
            if role[0] == "block":
                block[role[1]] = tile
            else:
                steps.append((point, 0, tile))
            if role != ("turn",):
                lane[role[1]] = offset % lanes
            steps.append((point, 1, offset // lanes))
        return tuple(block), tuple(lane), steps

    def is_missed(self, deed):
        block = self.spot(deed)[0]
        return not all(0 <= block[axis] < self.counts[axis] for axis in (0, 1))

    def is_torn(self, one, other):
        """Whether two deeds that cross, the first one ahead in the nest, are torn."""
        first, second = self.spot(one), self.spot(other)
        if first[:2] == second[:2]:
            return False
        return first[0] != second[0] or not self.is_ahead(one, first[2], other, second[2])

    def is_ahead(self, one, first, other, second):
        """Whether the step of a deed's piece is ahead of that of another one in the kernel."""
        for mine, its in zip(first, second):
            if mine[:2] != its[:2]:
                break
            if mine[2] != its[2]:
                return mine[2] < its[2]
        names = [min(name for name in nestery.pieces_of(self.nest) if name >= deed[0]) for deed in (one, other)]
        return names[0] < names[1]

    def wrongs(self):
        """The deeds that are missed, and the pairs that are torn."""
        return ([deed for deed in self.crossing.deeds if self.is_missed(deed)],
                [pair for pair in self.crossing.pairs() if self.is_torn(*pair)])


def takes_beyond(nest, plan, sizes):
    """Whether the nest takes something beyond an array that is copied."""
    names = [array for array, _ in plan.copies]
    sizes_of = {array: own for _, array, own in nest.arrays}
    for deed in nestery.deeds_at(nest, sizes):
        array, where = cell_of(nest, sizes, deed)
        if array in names:
            for (tile, _), name in zip(where, sizes_of[array]):
                if not 0 <= tile < sizes[name][0]:
                    return True
    return False


class Wrongs(unittest.TestCase):
    def test_example(self):
        nest = stencil()
        plan = by_blocks(1, (("a", None),))
        self.assertEqual((missed(nest, plan), torn(nest, plan), bool(wrong_region(nest, plan))), (None, None, False))
        self.assertEqual(judge(cut(nest, 2), *made(nest, plan)), ("alike",))
        short = by_blocks(0, (("a", None),))
        sizes, deed = missed(nest, short)
        self.assertTrue(Layout(nest, short, sizes).is_missed(deed))
        self.assertTrue(Layout(nest, short, {"n": (3, 0)}).is_missed((4, (0, 0), (0, 0), (2,))))
        self.assertTrue({"n": (1, 1)} in wrong_region(nest, short))
        self.assertFalse({"n": (1, 0)} in wrong_region(nest, short))
        self.assertIsNone(torn(nest, short))
        own = stencil("a")
        sizes, one, other = torn(own, by_blocks(1, ()))
        self.assertTrue(Layout(own, by_blocks(1, ()), sizes).is_torn(one, other))
        self.assertIsNone(missed(own, by_blocks(1, ())))
        with self.assertRaises(Missed) as caught:
            fewest_gaps(nest, short)
        self.assertTrue(Layout(nest, short, caught.exception.sizes).is_missed(caught.exception.deed))
        with self.assertRaises(Torn) as caught:
            fewest_gaps(own, by_blocks(1, ()))
        self.assertTrue(Layout(own, by_blocks(1, ()), caught.exception.sizes).is_torn(
            caught.exception.deed, caught.exception.other))
        with self.assertRaises(Missed):
            fewest_gaps(own, by_blocks(0, ()))
        self.assertEqual(fewest_gaps(nest, plan), (plan, None))

    def test_fewest_gaps_by_hand(self):
        nest = nest_of("n", (("a", "n"), ("b", "n")), (
            ("long", "i", bare(0), tiles("n"), (LET, ("put", at("a", turn("i")), "x"))),
            ("long", "j", bare(1), tiles("n"), (("take", "x", at("a", turn("j", -1))), ("put", at("b", turn("j")), "x")))))
        plan = Plan(2, (1, 2), BLOCKS, {0: ("lane", 1), 3: ("lane", 1)}, (((), 0), ((3, None), 1)), ())
        self.assertEqual(all_gaps(nest), [((), 0), ((), 1), ((), 2), ((0, None), 0), ((0, None), 1),
                                          ((3, None), 0), ((3, None), 1)])
        found, tree = fewest_gaps(nest, plan)
        self.assertEqual(found, Plan(2, (1, 2), BLOCKS, plan.roles, (((), 1),), ()))
        self.assertEqual(tree, ("end", 0))
        self.assertTrue(wrong_region(nest, plan))
        self.assertFalse(wrong_region(nest, found))
        mixed = Plan(2, (1, 2), BLOCKS, {0: ("lane", 1), 3: ("turn",)}, (), ())
        found, tree = fewest_gaps(nest, mixed)
        self.assertEqual((found.gaps, tree), ((((), 1),), ("end", 0)))

    def test_gaps_in_short_loops(self):
        block = (LET, ("put", at("a", turn("j")), "x"), ("take", "y", at("a", turn("j", -1))), ("put", at("b", turn("j")), "y"))
        nest = nest_of("n", (("a", "n"), ("b", "n")), (("long", "i", bare(0), tiles("n"), (
            ("long", "j", bare(1), tiles("n"), block),)),))
        plan = Plan(2, (1, 2), BLOCKS, {0: ("turn",), 1: ("lane", 1)}, (), ())
        found, tree = fewest_gaps(nest, plan)
        self.assertEqual((found.gaps, tree[0]), ((((0, None), 0), ((1, None), 1)), "part"))
        self.assertFalse(wrong_region(nest, found))
        for gap in all_gaps(nest):
            self.assertTrue(wrong_region(nest, self.with_gaps(plan, (gap,))))
        block = (LET, ("put", at("a", turn("j"), turn("i")), "x"), ("take", "y", at("a", turn("j", -1), turn("i", -1))),
                 ("put", at("b", turn("j")), "y"))
        nest = nest_of("n", (("a", "nn"), ("b", "n")), (("long", "i", bare(0), tiles("n"), (
            ("long", "j", bare(1), tiles("n"), block),)),))
        found, tree = fewest_gaps(nest, plan)
        self.assertEqual((found.gaps, tree), ((((0, None), 0),), ("end", 0)))
        self.assertFalse(wrong_region(nest, found))

    def test_too_many_gaps(self):
        piece = (LET, ("put", at("a", bare(0)), "x"))
        fits = nest_of("n", (("a", "n"),), piece * 15)
        plan = Plan(2, (1, 1), BLOCKS, {}, (), ())
        self.assertEqual(len(all_gaps(fits)), 16)
        self.assertEqual(fewest_gaps(fits, plan), (plan, None))
        more = nest_of("n", (("a", "n"),), piece * 16)
        with self.assertRaises(TooMany) as caught:
            fewest_gaps(more, plan)
        self.assertEqual(caught.exception.most, 16)
        inner = nest_of("n", (("a", "n"),), piece * 14 + (("long", "i", bare(0), tiles("n"), piece),))
        with self.assertRaises(Missed):
            fewest_gaps(inner, Plan(2, (1, 1), (LONE, LONE), {28: ("block", 1)}, (), ()))
        with self.assertRaises(TooMany) as caught:
            fewest_gaps(inner, Plan(2, (1, 1), (LONE, LONE), {28: ("turn",)}, (), ()))
        self.assertEqual(caught.exception.most, 16)

    def test_too_many(self):
        nest = nestery.wide_nest()
        plan = Plan(2, (1, 2), (LONE, ("tiles", "n", 1)), {0: ("block", 1)}, (), ())
        for one, most in ((missed, 20000), (torn, 20000), (wrong_region, 20000), (fewest_gaps, 16)):
            with self.assertRaises(TooMany) as caught:
                one(nest, plan)
            self.assertEqual(caught.exception.most, most)
        block = nest.body[0][4]
        few = nest_of("n", (("a", "n"),), (("long", "i", bare(0), tiles("n"), block[0][2]),))
        self.assertLessEqual(len(all_gaps(few)), 16)
        for one in (missed, torn, wrong_region, fewest_gaps):
            with self.assertRaises(TooMany) as caught:
                one(few, plan)
            self.assertEqual(caught.exception.most, 20000)

    def test_gone_through(self):
        counts = {}
        for seed in range(90):
            nest = nestery.made_nest(seed)
            r = random.Random(seed)
            plan = planning.fitting_plan(nest, r, (1, 2, 2, 2, 3))
            if plan is None or plan.width == 3 and len(nest.statements) > 9:
                continue
            try:
                region = wrong_region(nest, plan)
            except TooMany:
                continue
            kernel, chart = made(nest, plan)
            found = missed(nest, plan), torn(nest, plan)
            raced = race_region(kernel)
            self.assertEqual(found == (None, None) and not raced, not region)
            self.check_found(nest, plan, found)
            plain = cut(nest, plan.width)
            for sizes in all_sizes_up_to(kernel, 2):
                own = {name: (pair[0] * plan.width + pair[1], 0) for name, pair in sizes.items()}
                if all(pair[0] <= 5 for pair in own.values()):
                    lost, apart = Layout(nest, plan, own).wrongs()
                    self.assertEqual(sizes in region, bool(lost or apart or sizes in raced), (seed, sizes))
                    self.assertTrue(not lost or found[0])
                    self.assertTrue(not apart or found[1])
                    key = "wrong" if sizes in region else "good"
                    counts[key] = counts.get(key, 0) + 1
                    if not (plan.copies and takes_beyond(nest, plan, own)):
                        self.check_stories((plain, kernel, chart), sizes, sizes not in region, r)
            if not plan.copies and not raced and len(kernel.statements) <= 12:
                self.assertEqual(judge(plain, kernel, chart) == ("alike",), not region)
        self.assertGreater(min(counts["wrong"], counts["good"]), 30)

    def check_found(self, nest, plan, found):
        if found[0] is not None:
            sizes, deed = found[0]
            self.assertIn(deed, Layout(nest, plan, sizes).wrongs()[0])
        if found[1] is not None:
            sizes, one, other = found[1]
            self.assertIn((one, other), Layout(nest, plan, sizes).wrongs()[1])

    def check_stories(self, triple, sizes, good, r):
        """That what is told of every order is the cut's story exactly if nothing is wrong."""
        plain, kernel, chart = triple
        if sum(len(done) for done in Run(kernel, sizes).lists.values()) > 60:
            return
        orders = [[]] + [planning.drawn_order(kernel, sizes, r) for _ in range(2 if good else 8)]
        if not good:
            for one, other in races_at(kernel, sizes)[:3]:
                orders.extend(two_orders(kernel, (sizes, one, other)))
        whole = story(plain, sizes, [])
        self.assertEqual(all(told(plain, kernel, chart, sizes, order) == whole for order in orders), good)

    def test_fewest_gaps_gone_through(self):
        wanted = 0
        for seed in range(40):
            r = random.Random(seed)
            nest, plan = made_rows(r)
            gaps = all_gaps(nest)
            try:
                found, tree = fewest_gaps(nest, plan)
            except LaneError as e:
                self.assertIsInstance(e, (Missed, Torn))
                self.assertEqual(isinstance(e, Missed), missed(nest, plan) is not None)
                self.assertEqual(isinstance(e, Torn), not missed(nest, plan) and torn(nest, plan) is not None)
                continue
            self.assertEqual((missed(nest, plan), torn(nest, plan)), (None, None))
            self.assertFalse(wrong_region(nest, found))
            self.assertEqual(found, self.with_gaps(plan, found.gaps))
            self.assertEqual(tree is None, not found.gaps)
            wanted += bool(found.gaps)
            if 0 < len(found.gaps) <= 2:
                for fewer in itertools.combinations(gaps, len(found.gaps) - 1):
                    self.assertTrue(wrong_region(nest, self.with_gaps(plan, fewer)))
                for mates in itertools.combinations(gaps, len(found.gaps)):
                    if mates == found.gaps:
                        break
                    self.assertTrue(wrong_region(nest, self.with_gaps(plan, mates)))
        self.assertGreater(wanted, 6)

    def test_lots_and_trees(self):
        """The gaps and the tree against lots that are gone through: which meeting alone would part a race."""
        trees = 0
        for seed in range(100, 130):
            nest, plan = made_rows(random.Random(seed))
            gaps = all_gaps(nest)
            try:
                found, tree = fewest_gaps(nest, plan)
            except (Missed, Torn):
                continue
            lots = self.lots_at_small_sizes(nest, plan, gaps)
            least = sorted(lot for lot in lots if not any(set(other) < set(lot) for other in lots))
            if not least:
                self.assertEqual((found.gaps, tree), ((), None))
                continue
            hits = least_hits(len(gaps), least)
            self.assertEqual(found.gaps, tuple(gaps[hit] for hit in hits))
            self.assertTrue(is_hit_tree(len(gaps), least, len(hits) - 1, tree))
            trees += 1
        self.assertGreater(trees, 7)

    def lots_at_small_sizes(self, nest, plan, gaps):
        """The lots of all races at small sizes, of the kernel without gaps."""
        kernel = made(nest, self.with_gaps(plan, ()))[0]
        moved = {gap: self.meeting_of(kernel, made(nest, self.with_gaps(plan, (gap,)))[0]) for gap in gaps}
        lots = set()
        for sizes in all_sizes_up_to(kernel, 2):
            if sizes["n"][0] * plan.width + sizes["n"][1] > 6:
                continue
            for one, other in races_at(kernel, sizes):
                lot = []
                for at_, gap in enumerate(gaps):
                    other_kernel, spot = moved[gap]
                    mates = [(deed[0] + (deed[0] >= spot),) + deed[1:] for deed in (one, other)]
                    if meeting_between(other_kernel, sizes, *mates) is not None:
                        lot.append(at_)
                lots.add(tuple(lot))
        return lots

    def meeting_of(self, kernel, other):
        """A kernel with one meeting more, and the point of that."""
        heads = [statement[:2] if statement[0] != "if" else statement[:1] for statement in other.statements]
        own = [statement[:2] if statement[0] != "if" else statement[:1] for statement in kernel.statements]
        spots = [at_ for at_ in range(len(heads)) if heads[at_] == ("meet",) and heads[:at_] + heads[at_ + 1:] == own]
        self.assertEqual(len(spots), 1)
        return other, spots[0]

    def with_gaps(self, plan, gaps):
        return Plan(plan.width, plan.lanes, plan.blocks, plan.roles, gaps, plan.copies)


if __name__ == "__main__":
    unittest.main()
