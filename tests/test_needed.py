"""Points [82] and [83]: where meetings are wanted, and which are needless."""

import itertools
import random
import unittest

import runs
import samples
from lanesmeet.beside import compared
from lanesmeet.errors import BadBare, BadGaps, BadKernel, BadPoint, Fixed, NotOne, TooMany
from lanesmeet.hits import hit_tree, is_hit_tree, least_hits
from lanesmeet.kernels import Kernel
from lanesmeet.needed import (
    Seeker, bare, fewest_meetings, gaps_of, is_fewest, lots_of, needless_meetings, with_gaps, without_meeting)
from lanesmeet.parted import parting
from lanesmeet.races import race, races_at

ONE = samples.ONE
B = (0, 0)
LANE = ("lane", 1)
BLOCK = ("block", 0, 0)
MEET = ("meet",)
LET = ("let", "w", "f", ())


def kernel_of(body, **change):
    """Two lanes, width 2, blocks by the tiles of n, a far array a of n and a shared one s."""
    told = {"width": 2, "lanes": (1, 2), "blocks": (("tiles", "n", 0), ONE), "sizes": (("n", (0,)),), "promises": (),
            "arrays": (("far", "a", ("n",)), ("shared", "s", (2,))), "body": body}
    return Kernel(**{**told, **change})


def example_kernel():
    return kernel_of((("let", "x", "f", ()), ("put", ("a", ((BLOCK, LANE),)), "x"),
                      ("take", "y", ("a", ((BLOCK, ("minus", ("is", 1), LANE)),)))))


def made_bare(seed):
    """Kernels without meetings whose lanes come to one cell at unlike statements or turns."""
    r = random.Random(seed)
    lanes = r.choice((2, 2, 3, 4))

    def cell(longs, shorts):
        small = r.choice((LANE, LANE, ("rest of", ("plus", LANE, ("is", r.randint(1, 2))), lanes)))
        if shorts and r.random() < 0.3:
            small = ("rest of", ("plus", LANE, ("turn", shorts[0])), lanes)
        if r.random() < 0.5:
            return ("s", (small,))
        if r.random() < 0.06:
            small = ("is", r.randrange(lanes))
        form = ("turn", longs[-1], r.choice((0, 0, 1))) if longs and r.random() < 0.7 else BLOCK
        return ("a", ((form, small),))

    def deed(longs, shorts):
        k = r.random()
        if k < 0.45:
            return ("put", cell(longs, shorts), "w")
        return ("take", "x", cell(longs, shorts)) if k < 0.85 else ("add", cell(longs, shorts), "w")

    def guard(longs):
        spot = (("turn", longs[-1], 0) if longs else BLOCK, ("is", r.randint(0, lanes)))
        k = r.random()
        if k < 0.4:
            return ("within", spot, "n")
        if k < 0.6:
            return ("small", ("rest", "n"), "same", ("is", 0))
        if k < 0.75:
            return ("small", LANE, "less", ("is", r.randint(0, 2)))
        return ("order", spot, (("none", None, r.randint(0, 1)), ("is", 0)))

    def block(longs, shorts, deep, many):
        found = []
        for _ in range(many):
            k = r.random()
            if deep < 2 and k < 0.25 and len(longs) < 2:
                name = "tu"[len(longs)]
                high = r.choice((("tiles", "n", 0), ("tiles", "n", 0), ("none", None, 2)))
                found.append(("long", name, ("none", None, 0), high, block(longs + [name], shorts, deep + 1, r.randint(1, 2))))
            elif deep < 2 and k < 0.32 and not shorts:
                found.append(("short", "k", 2, block(longs, ["k"], deep + 1, 1)))
            elif deep < 2 and k < 0.45:
                found.append(("if", guard(longs), block(longs, shorts, deep + 1, 1), block(longs, shorts, deep + 1, r.randint(0, 1))))
            else:
                found.append(deed(longs, shorts))
        return tuple(found)

    rests = r.choice(((0,), (1,), (0, 1)))
    blocks = r.choice(((("tiles", "n", 0), ONE), (ONE, ONE)))
    return Kernel(lanes, (1, lanes), blocks, (("n", rests),), r.choice(((), ((None, "n", -1),))),
                  (("far", "a", ("n",)), ("shared", "s", (lanes,))), (LET,) + block([], [], 0, r.randint(2, 4)))


def plain_bare(block):
    found = []
    for statement in block:
        if statement == MEET:
            continue
        if statement[0] == "if":
            statement = statement[:2] + (plain_bare(statement[2]), plain_bare(statement[3]))
        if statement[0] in ("short", "long"):
            statement = statement[:-1] + (plain_bare(statement[-1]),)
        found.append(statement)
    return tuple(found)


def asks_lane(thing):
    return isinstance(thing, tuple) and (thing[:1] == ("lane",) or any(asks_lane(item) for item in thing))


def plain_gaps(kernel):
    """All gaps but the first and the last one of the body, walking through the text."""
    found = []
    count = [0]

    def walk(around, block, open_here):
        if open_here:
            found.extend((around, index) for index in range(len(block) + 1))
        for statement in block:
            point = count[0]
            count[0] += 1
            if statement[0] == "long":
                walk((point, None), statement[4], open_here)
            if statement[0] == "short":
                walk((point, None), statement[3], False)
            if statement[0] == "if":
                for side in (0, 1):
                    walk((point, side), statement[2 + side], open_here and not asks_lane(statement[1]))

    walk((), kernel.body, True)
    found = [gap for gap in sorted(found) if gap not in (((), 0), ((), len(kernel.body)))]
    return found


def meetings_of(kernel, sizes, gap_number):
    """How a meeting at one gap stands to instances: a function of a block and two instances of the bare kernel."""
    met = with_gaps(kernel, (gap_number,))
    point = met.statements.index(MEET)
    plain = runs.Plain(met, sizes)

    def is_passed(one, other):
        meets = [own for own in plain.lists[(one[1], plain.lanes[0])] if own[0] == point]
        steps = [(own[0] + (own[0] >= point), own[3]) for own in (one, other)]
        return any(compared(met, steps[0], (own[0], own[3])) == -1 == compared(met, (own[0], own[3]), steps[1])
                   for own in meets)

    return is_passed


def conflicts_at(kernel, sizes):
    """All conflicts, the first one not behind the second one."""
    plain = runs.Plain(kernel, sizes)
    found = []
    for one, other in itertools.permutations(plain.cells, 2):
        if one[1] == other[1] and one[2] != other[2] and plain.cross(one, other):
            if compared(kernel, (one[0], one[3]), (other[0], other[3])) < 1:
                found.append((one, other))
    return found


def plain_lots(kernel, most):
    """The lots of all conflicts at sizes with at most so many tiles."""
    many = len(gaps_of(kernel))
    found = set()
    for sizes in samples.all_sizes_up_to(kernel, most):
        passed = [meetings_of(kernel, sizes, number) for number in range(many)]
        for one, other in conflicts_at(kernel, sizes):
            found.add(tuple(number for number in range(many) if passed[number](one, other)))
    return found


def least_lots(lots):
    return tuple(sorted(lot for lot in lots if not any(set(other) < set(lot) for other in lots)))


def races_within(kernel, most):
    """Whether two deeds of one block race at sizes with at most so many tiles."""
    for sizes in samples.all_sizes_up_to(kernel, most):
        if any(one[1] == other[1] for one, other in races_at(kernel, sizes)):
            return True
    return False


class Errors(unittest.TestCase):
    def test_errors_in_order(self):
        for thing in samples.NO_KERNELS:
            for call in (lambda: bare(thing), lambda: gaps_of(thing), lambda: with_gaps(thing, None),
                         lambda: lots_of(thing), lambda: fewest_meetings(thing), lambda: is_fewest(thing, None, None),
                         lambda: needless_meetings(thing), lambda: without_meeting(thing, None)):
                with self.assertRaises(BadKernel):
                    call()
        met = samples.shift_kernel()
        for call in (lambda: gaps_of(met), lambda: with_gaps(met, None), lambda: lots_of(met),
                     lambda: fewest_meetings(met), lambda: is_fewest(met, None, None)):
            with self.assertRaises(BadBare):
                call()
        inside = kernel_of((("long", "t", ("none", None, 0), ("none", None, 1), (MEET,)),))
        with self.assertRaises(BadBare):
            gaps_of(inside)
        kernel = example_kernel()
        for numbers in (None, 0, [0], [], (2,), (-1,), (1, 0), (0, 0), (True,), (False, 1), ("0",), (0, 1, 2), {0: 1}):
            with self.assertRaises(BadGaps):
                with_gaps(kernel, numbers)
        for point in (None, 0, 2, 3, -1, True, "1", (1,)):
            with self.assertRaises(BadPoint):
                without_meeting(met, point)
        with self.assertRaises(NotOne):
            needless_meetings(met)
        with self.assertRaises(NotOne):
            needless_meetings(kernel)
        parted = kernel_of((("if", ("small", LANE, "same", ("is", 0)), (MEET,), ()),))
        with self.assertRaises(NotOne):
            needless_meetings(parted)

    def test_too_many_gaps(self):
        many = kernel_of(tuple(("let", "w", "f", ()) for _ in range(17)))
        self.assertEqual(len(gaps_of(many)), 16)
        more = kernel_of(tuple(("let", "w", "f", ()) for _ in range(18)))
        for call in (lambda: gaps_of(more), lambda: with_gaps(more, ()), lambda: lots_of(more),
                     lambda: fewest_meetings(more), lambda: is_fewest(more, (), None)):
            with self.assertRaises(TooMany) as caught:
                call()
            self.assertEqual(caught.exception.most, 16)

    def test_too_many(self):
        body = (("put", ("s", (("is", 0),)), "w"),)
        for name in "klm":
            body = (("short", name, 8, body),)
        many = kernel_of((LET,) + body, width=8, lanes=(2, 8))
        for call in (lambda: lots_of(many), lambda: fewest_meetings(many), lambda: is_fewest(many, (), None),
                     lambda: needless_meetings(many)):
            with self.assertRaises(TooMany) as caught:
                call()
            self.assertEqual(caught.exception.most, 20000)


class Gaps(unittest.TestCase):
    def test_bare(self):
        inner = ("if", ("small", LANE, "same", ("is", 0)), (MEET, LET), (MEET,))
        loop = ("long", "t", ("none", None, 0), ("none", None, 2), (("short", "k", 2, (LET, MEET, MEET)), MEET))
        kernel = kernel_of((MEET, inner, loop, MEET))
        self.assertEqual(bare(kernel).body, (
            ("if", ("small", LANE, "same", ("is", 0)), (LET,), ()),
            ("long", "t", ("none", None, 0), ("none", None, 2), (("short", "k", 2, (LET,)),))))
        for seed in range(200):
            kernel = samples.made_kernel(seed, many=9)
            wanted = Kernel(kernel.width, kernel.lanes, kernel.blocks, kernel.sizes, kernel.promises, kernel.arrays,
                            plain_bare(kernel.body))
            self.assertEqual(bare(kernel), wanted)
            self.assertEqual(bare(wanted), wanted)

    def test_gaps_by_hand(self):
        self.assertEqual(gaps_of(kernel_of(())), [])
        self.assertEqual(gaps_of(kernel_of((LET,))), [])
        self.assertEqual(gaps_of(example_kernel()), [((), 1), ((), 2)])
        low = ("small", LANE, "same", ("is", 0))
        rest = ("small", ("rest", "n"), "same", ("is", 0))
        order = ("order", (BLOCK, ("plus", LANE, ("is", 1))), (("none", None, 0), ("is", 0)))
        body = (
            ("long", "t", ("none", None, 0), ("none", None, 2), (LET, ("if", rest, (LET,), ()))),
            ("short", "k", 2, (("long", "u", ("none", None, 0), ("none", None, 1), (LET,)),)),
            ("if", ("not", ("or", rest, low)), (("long", "v", ("none", None, 0), ("none", None, 1), ()),), (LET,)),
            ("if", order, (LET,), ()))
        self.assertEqual(gaps_of(kernel_of(body)), [
            ((), 1), ((), 2), ((), 3), ((0, None), 0), ((0, None), 1), ((0, None), 2), ((2, 0), 0), ((2, 0), 1), ((2, 1), 0)])

    def test_gaps_gone_through(self):
        told = 0
        for seed in range(300):
            kernel = made_bare(seed) if seed % 2 else bare(samples.made_kernel(seed, many=8))
            wanted = plain_gaps(kernel)
            told += len(wanted)
            if len(wanted) <= 16:
                self.assertEqual(gaps_of(kernel), wanted)
        self.assertGreater(told, 800)

    def test_with_gaps(self):
        kernel = example_kernel()
        let, put, take = kernel.body
        self.assertEqual(with_gaps(kernel, ()), kernel)
        self.assertEqual(with_gaps(kernel, (0,)).body, (let, MEET, put, take))
        self.assertEqual(with_gaps(kernel, (0, 1)).body, (let, MEET, put, MEET, take))
        rest = ("small", ("rest", "n"), "same", ("is", 0))
        deep = kernel_of((("long", "t", ("none", None, 0), ("none", None, 2), (LET, ("if", rest, (LET,), ()))), LET))
        found = with_gaps(deep, tuple(range(len(gaps_of(deep))))).body
        self.assertEqual(found, (
            ("long", "t", ("none", None, 0), ("none", None, 2), (
                MEET, LET, MEET, ("if", rest, (MEET, LET, MEET), (MEET,)), MEET)), MEET, LET))
        for seed in range(100):
            kernel = made_bare(seed)
            many = len(plain_gaps(kernel))
            if many <= 16:
                met = with_gaps(kernel, tuple(range(many)))
                self.assertEqual(bare(met), kernel)
                self.assertEqual(met.statements.count(MEET), many)
                self.assertIsNone(parting(met))


class Lots(unittest.TestCase):
    def test_example(self):
        kernel = example_kernel()
        self.assertEqual(lots_of(kernel), ("lots", ((1,),)))
        let, put, take = kernel.body
        met = kernel_of((let, put, MEET, take))
        self.assertEqual(fewest_meetings(kernel), (met, (1,), ("end", 0)))
        self.assertIs(is_fewest(kernel, (1,), ("end", 0)), True)

    def test_nothing_is_wanted(self):
        kernel = kernel_of((LET, ("put", ("a", ((BLOCK, LANE),)), "w")))
        self.assertEqual(lots_of(kernel), ("lots", ()))
        self.assertEqual(fewest_meetings(kernel), (kernel, (), None))
        self.assertIs(is_fewest(kernel, (), None), True)
        self.assertIs(is_fewest(kernel, (0,), ("end", 0)), False)
        self.assertIs(is_fewest(kernel, (0,), None), False)
        self.assertIs(is_fewest(kernel, (), ("end", 0)), False)

    def test_a_conflict_that_no_gap_parts(self):
        kernel = kernel_of((LET, ("put", ("a", ((BLOCK, ("is", 0)),)), "w")))
        word, (sizes, one, other) = lots_of(kernel)
        self.assertEqual((word, sizes), ("fixed", {"n": (1, 0)}))
        self.assertEqual({one, other}, {(1, B, (0, 0), ()), (1, B, (0, 1), ())})
        with self.assertRaises(Fixed) as caught:
            fewest_meetings(kernel)
        fixed = caught.exception
        self.assertEqual((fixed.sizes, fixed.one, fixed.other), (sizes, one, other))
        self.assertIs(is_fewest(kernel, (), None), False)
        self.assertIs(is_fewest(kernel, (0,), ("end", 0)), False)
        # No gap stands within a short loop, but for one around it there is one.
        short = ("short", "k", 2, (("put", ("s", (("rest of", ("plus", LANE, ("turn", "k")), 2),)), "w"),))
        self.assertEqual(lots_of(kernel_of((LET, short)))[0], "fixed")

    def test_behind_the_first_statement(self):
        take = ("take", "x", ("a", ((BLOCK, ("minus", ("is", 1), LANE)),)))
        kernel = kernel_of((take, ("put", ("a", ((BLOCK, LANE),)), "x")))
        self.assertEqual((gaps_of(kernel), lots_of(kernel)), ([((), 1)], ("lots", ((0,),))))
        self.assertEqual(fewest_meetings(kernel)[1:], ((0,), ("end", 0)))

    def test_what_is_parted_is_counted(self):
        seeker = Seeker(example_kernel())
        seeker.parts = 20000
        with self.assertRaises(TooMany) as caught:
            seeker.seek()
        self.assertEqual(caught.exception.most, 20000)
        seeker = Seeker(example_kernel())
        seeker.seek()
        # Of one sort of conflicts and its contrary just one is told, by one gap behind the other.
        self.assertTrue(3 <= seeker.parts <= 20)

    def test_loops(self):
        # In turn t lane l puts where in turn t + 1 the other lane takes: ahead of the take, or behind the put.
        put = ("put", ("a", ((("turn", "t", 0), LANE),)), "w")
        take = ("take", "x", ("a", ((("turn", "t", -1), ("minus", ("is", 1), LANE)),)))
        kernel = kernel_of((LET, ("long", "t", ("none", None, 1), ("tiles", "n", 0), (take, put))), blocks=(ONE, ONE))
        self.assertEqual(gaps_of(kernel), [((), 1), ((1, None), 0), ((1, None), 1), ((1, None), 2)])
        self.assertEqual(lots_of(kernel), ("lots", ((1, 3),)))
        self.assertEqual(fewest_meetings(kernel)[1:], ((1,), ("end", 0)))
        swapped = kernel_of((LET, ("long", "t", ("none", None, 1), ("tiles", "n", 0), (put, take))), blocks=(ONE, ONE))
        self.assertEqual(lots_of(swapped), ("lots", ((1, 2, 3),)))

    def test_gone_through(self):
        told = {"fixed": 0, "lots": 0}
        for seed in range(400):
            kernel = made_bare(seed)
            if len(plain_gaps(kernel)) > 9:
                continue
            word, found = lots_of(kernel)
            lots = plain_lots(kernel, 3)
            told[word] += 1
            if word == "fixed":
                sizes, one, other = found
                self.assertIn((one, other), conflicts_at(kernel, sizes))
                for number in range(len(gaps_of(kernel))):
                    self.assertFalse(meetings_of(kernel, sizes, number)(one, other))
            else:
                self.assertEqual(found, least_lots(lots), seed)
            self.assertEqual(() in lots, word == "fixed")
        self.assertGreater(min(told.values()), 20)
        self.assertGreater(told["lots"], 200)

    def test_gone_through_for_other_kernels(self):
        told = [0, 0]
        for seed in range(250):
            kernel = bare(samples.made_kernel(seed, many=6))
            if len(plain_gaps(kernel)) > 8:
                continue
            word, found = lots_of(kernel)
            lots = plain_lots(kernel, 2)
            if word == "lots":
                self.assertTrue(all(any(set(own) <= set(lot) for own in found) for lot in lots))
                told[0] += 1
            else:
                self.assertIn(found[1:], conflicts_at(kernel, found[0]))
                told[1] += 1
        self.assertGreater(min(told), 40)

    def test_the_fewest_meetings(self):
        told = [0] * 4
        for seed in range(400):
            kernel = made_bare(seed)
            many = len(plain_gaps(kernel))
            if many > 16:
                continue
            word, lots = lots_of(kernel)
            if word == "fixed":
                continue
            met, numbers, tree = fewest_meetings(kernel)
            told[min(3, len(numbers))] += 1
            self.assertEqual(met, with_gaps(kernel, numbers))
            if lots:
                self.assertEqual(numbers, least_hits(many, lots))
                self.assertIs(is_hit_tree(many, lots, len(numbers) - 1, tree), True)
            else:
                self.assertEqual((numbers, tree), ((), None))
            self.assertIs(is_fewest(kernel, numbers, tree), True)
            self.assertIsNone(parting(met))
            self.assertFalse(races_within(met, 3))
            if numbers and many <= 8:
                for fewer in itertools.combinations(range(many), len(numbers) - 1):
                    self.assertTrue(races_within(with_gaps(kernel, fewer), 4), (seed, fewer))
        self.assertTrue(min(told[:3]) > 20, told)

    def test_is_fewest_of_any_two_values(self):
        put = ("put", ("a", ((("turn", "t", 0), LANE),)), "w")
        take = ("take", "x", ("a", ((("turn", "t", -1), ("minus", ("is", 1), LANE)),)))
        kernel = kernel_of((LET, ("long", "t", ("none", None, 1), ("tiles", "n", 0), (take, put))), blocks=(ONE, ONE))
        for numbers in ((1,), (3,)):
            self.assertIs(is_fewest(kernel, numbers, ("end", 0)), True)
        # These hit the lot, but one of them would do.
        tree = hit_tree(4, [(1, 3)], 0)
        for numbers in ((1, 3), (0, 1), (0,), (2,), (), None, [1], (True,), (4,), (-1,), ("1",), 1, (1, 1), {1: 1}):
            self.assertIs(is_fewest(kernel, numbers, tree), False)
        for thing in (None, (), ("end", 1), ("part", 0, {}), ["end", 0], ("end", False)):
            self.assertIs(is_fewest(kernel, (1,), thing), False)

    def test_results_are_new(self):
        kernel = kernel_of((LET, ("put", ("a", ((BLOCK, ("is", 0)),)), "w")))
        lots_of(kernel)[1][0].clear()
        self.assertEqual(lots_of(kernel)[1][0], {"n": (1, 0)})
        gaps_of(kernel).clear()
        self.assertEqual(gaps_of(kernel), [((), 1)])


class Needless(unittest.TestCase):
    def test_by_hand(self):
        kernel = samples.shift_kernel(promises=(("n", None, 1),))
        self.assertEqual(needless_meetings(kernel), ())
        take, meet, put = kernel.body
        twice = Kernel(kernel.width, kernel.lanes, kernel.blocks, kernel.sizes, kernel.promises, kernel.arrays,
                       (MEET, take, meet, meet, put))
        # Each of both can be left out alone.
        self.assertEqual(needless_meetings(twice), (0, 2, 3))
        self.assertEqual(without_meeting(twice, 2).body, (MEET, take, meet, put))
        self.assertEqual(without_meeting(kernel, 1).body, (take, put))
        loop = samples.loop_kernel()
        with self.assertRaises(NotOne):
            needless_meetings(loop)

    def test_without_meeting_within_blocks(self):
        rest = ("small", ("rest", "n"), "same", ("is", 0))
        body = (("long", "t", ("none", None, 0), ("none", None, 2), (MEET, ("if", rest, (LET,), (MEET,)))), MEET)
        kernel = kernel_of(body)
        self.assertEqual(without_meeting(kernel, 1).body, (
            ("long", "t", ("none", None, 0), ("none", None, 2), (("if", rest, (LET,), (MEET,)),)), MEET))
        self.assertEqual(without_meeting(kernel, 4).body, (
            ("long", "t", ("none", None, 0), ("none", None, 2), (MEET, ("if", rest, (LET,), ()))), MEET))
        self.assertEqual(without_meeting(kernel, 5).body, (body[0],))

    def test_gone_through(self):
        told = [0, 0]
        for seed in range(400):
            kernel = samples.made_kernel(seed, many=7)
            meetings = [point for point, statement in enumerate(kernel.statements) if statement == MEET]
            if parting(kernel) is not None or race(kernel) is not None:
                with self.assertRaises(NotOne):
                    needless_meetings(kernel)
                told[0] += 1
                continue
            found = needless_meetings(kernel)
            self.assertEqual(found, tuple(point for point in meetings if race(without_meeting(kernel, point)) is None))
            told[1] += len(meetings) > 0
        self.assertGreater(min(told), 40)

    def test_the_fewest_are_all_needed(self):
        told = 0
        for seed in range(400):
            kernel = made_bare(seed)
            if len(plain_gaps(kernel)) > 16 or lots_of(kernel)[0] == "fixed":
                continue
            met = fewest_meetings(kernel)[0]
            if race(met) is None:
                self.assertEqual(needless_meetings(met), ())
                told += MEET in met.statements
        self.assertGreater(told, 20)


if __name__ == "__main__":
    unittest.main()
