"""Point [80]: parted meetings."""

import itertools
import unittest

import runs
import samples
from lanesmeet.differences import is_point, is_ring, is_system, least_point, ring
from lanesmeet.errors import BadKernel, BadPoint, TooMany
from lanesmeet.kernels import Kernel
from lanesmeet.meaning import cases_of, is_there
from lanesmeet.parted import (
    is_parted_papers, is_parting, parted_cases, parted_papers, parted_region, parting)
from lanesmeet.regions import Region

ONE = samples.ONE
B = (0, 0)


def guarded(guard, other=None, **change):
    """Two lanes, blocks by tiles of n, width 2, and a meeting behind one guard or two."""
    inner = (("meet",),) if other is None else (("if", other, (("meet",),), ()),)
    told = {"width": 2, "lanes": (1, 2), "blocks": (("tiles", "n", 0), ONE), "sizes": (("n", (0, 1)),), "promises": (),
            "arrays": (), "body": (("if", guard, inner, ()),)}
    return Kernel(**{**told, **change})


WITHIN = ("within", (("block", 0, 1), ("lane", 1)), "n")


def sizes_parted(kernel, sizes):
    """Whether lanes of some block come to unlike meetings."""
    plain = runs.Plain(kernel, sizes)
    for block in plain.blocks:
        meets = [[(one[0], one[3]) for one in plain.lists[(block, lane)] if plain.words[one[0]] == "meet"]
                 for lane in plain.lanes]
        if any(own != meets[0] for own in meets):
            return True
    return False


def meetings(kernel):
    return [point for point, statement in enumerate(kernel.statements) if statement[0] == "meet"]


class Cases(unittest.TestCase):
    def test_errors(self):
        for thing in samples.NO_KERNELS:
            for call in (lambda: parted_cases(thing, 0), lambda: parting(thing), lambda: is_parting(thing, None),
                         lambda: parted_papers(thing), lambda: is_parted_papers(thing, None), lambda: parted_region(thing)):
                with self.assertRaises(BadKernel):
                    call()
        kernel = guarded(WITHIN)
        for point in (None, 0, 2, -1, True, "1", (1,)):
            with self.assertRaises(BadPoint):
                parted_cases(kernel, point)

    def test_too_many(self):
        body = (("if", ("small", ("lane", 1), "less", ("is", 2)), (("meet",),), ()),)
        for name in "klm":
            body = (("short", name, 8, body),)
        kernel = Kernel(1, (2, 8), (ONE, ONE), (), (), (), body)
        for call in (lambda: parted_cases(kernel, 4), lambda: parting(kernel), lambda: parted_papers(kernel),
                     lambda: is_parted_papers(kernel, {}), lambda: parted_region(kernel)):
            with self.assertRaises(TooMany) as caught:
                call()
            self.assertEqual(caught.exception.most, 20000)

    def test_too_many_of_all_meetings_together(self):
        body = (("if", ("small", ("lane", 1), "same", ("is", 0)), (("meet",), ("meet",)), ()),)
        for name in "klm":
            body = (("short", name, 8, body),)
        kernel = Kernel(1, (2, 8), (ONE, ONE), (), (), (), body)
        self.assertEqual([len(parted_cases(kernel, point)) for point in (4, 5)], [14336, 14336])
        for call in (parting, parted_papers, parted_region, lambda one: is_parted_papers(one, {})):
            with self.assertRaises(TooMany) as caught:
                call(kernel)
            self.assertEqual(caught.exception.most, 20000)

    def test_by_hand(self):
        kernel = guarded(WITHIN)
        # Block 0 + 1 stands at tile block + 1: lane 0 is within with a rest of 1 at block = tiles - 1, lane 1 is not.
        told = {choice: system for choice, system in cases_of(kernel, 1)}
        low, high = {}, {}
        for lane, rest in itertools.product((0, 1), (0, 1)):
            low[lane] = ("block 0", None, -1 - (lane // 2 + 1))
            high[lane, rest] = ("tiles n", "block 0", -((rest - lane - 1) // 2 - 1) - 1)
        wanted = []
        for lane in (0, 1):
            for rest in (0, 1):
                choice = ((0, lane), (), (rest,), (0,))
                other = 1 - lane
                for side, row in enumerate((low[other], high[other, rest])):
                    wanted.append((choice, ((0, other), (side,)), told[choice] + [row]))
        self.assertEqual(parted_cases(kernel, 1), wanted)

    def test_two_ifs_by_hand(self):
        small = ("small", ("lane", 1), "same", ("is", 0))
        order = ("or", ("order", (("block", 0, 0), ("lane", 1)), (("none", None, 0), ("is", 0))), WITHIN)
        kernel = guarded(order, small)
        found = parted_cases(kernel, 2)
        ways = [(choice[3], way) for choice, way, _ in found if choice[:3] == ((0, 0), (), (0,))]
        # Guard one: parts of "or" 2, of its contrary 2; guard two: lane 1 has none of it and one of the contrary.
        self.assertEqual(ways, [((side, 0), ((0, 1), sides)) for side in (0, 1)
                                for sides in ((0,), (0, 0), (1,), (1, 0))])
        self.assertEqual([choice for choice, _, _ in found if choice[0] == (0, 1)], [])
        told = {choice: system for choice, system in cases_of(kernel, 2)}
        for choice, (_, sides), system in found:
            self.assertEqual(system[:len(told[choice])], told[choice])

    def test_cases_are_as_told(self):
        for seed in range(300):
            kernel = samples.made_kernel(seed, many=9)
            for point in meetings(kernel):
                told = dict(cases_of(kernel, point))
                found = parted_cases(kernel, point)
                keys = [(choice, way) for choice, way, _ in found]
                self.assertEqual(keys, sorted(keys))
                self.assertEqual(len(set(keys)), len(keys))
                ifs = [at for at, side in kernel.around(point) if side is not None]
                for choice, (other, sides), system in found:
                    self.assertTrue(is_system(system))
                    self.assertEqual(system[:len(told[choice])], told[choice])
                    self.assertNotEqual(other, choice[0])
                    self.assertTrue(1 <= len(sides) <= len(ifs))

    def test_each_point_of_a_case_is_a_parting(self):
        told = 0
        for seed in range(300):
            kernel = samples.made_kernel(seed, many=9)
            for point in meetings(kernel):
                loops = [kernel.statements[at] for at, side in kernel.around(point) if side is None]
                for choice, (other, _), system in parted_cases(kernel, point)[:40]:
                    if ring(system) is not None:
                        continue
                    numbers = least_point(system)
                    sizes = {size[0]: (numbers["tiles " + size[0]], rest) for size, rest in zip(kernel.sizes, choice[2])}
                    shorts = list(choice[1])
                    turns = tuple(numbers["turn " + loop[1]] if loop[0] == "long" else shorts.pop(0) for loop in loops)
                    block = (numbers["block 0"], numbers["block 1"])
                    one = (sizes, block, choice[0], other, point, turns)
                    self.assertIs(is_parting(kernel, one), True)
                    self.assertTrue(is_there(kernel, sizes, (point, block, choice[0], turns)))
                    self.assertFalse(is_there(kernel, sizes, (point, block, other, turns)))
                    told += 1
        self.assertGreater(told, 150)


class Partings(unittest.TestCase):
    def test_by_hand(self):
        kernel = guarded(WITHIN)
        self.assertEqual(parting(kernel), ({"n": (1, 1)}, (0, 0), (0, 0), (0, 1), 1, ()))
        self.assertIsNone(parted_papers(kernel))
        region = parted_region(kernel)
        self.assertIsInstance(region, Region)
        self.assertEqual((region.sizes, region.promises), (kernel.sizes, kernel.promises))
        self.assertEqual(region.told((0,)), [])
        self.assertEqual(region.told((1,)), [[(None, "tiles n", -1)]])
        whole = guarded(WITHIN, sizes=(("n", (0,)),))
        self.assertIsNone(parting(whole))
        papers = parted_papers(whole)
        self.assertEqual(list(papers), [1])
        self.assertEqual(papers[1], [ring(system) for _, _, system in parted_cases(whole, 1)])
        self.assertIs(bool(parted_region(whole)), False)

    def test_the_first_case_by_points(self):
        small = ("small", ("lane", 1), "same", ("is", 1))
        body = (("if", WITHIN, (("meet",),), ()), ("long", "t", ("block", 0, 0), ("tiles", "n", 0), (
            ("short", "k", 2, (("if", small, (), (("meet",),)),)),)))
        kernel = guarded(WITHIN, body=body)
        self.assertEqual(parting(kernel)[4], 1)
        kernel = guarded(WITHIN, sizes=(("n", (0,)),), body=body)
        self.assertEqual(parting(kernel), ({"n": (1, 0)}, (0, 0), (0, 0), (0, 1), 5, (0, 0)))

    def test_no_meetings_and_no_ifs(self):
        for kernel in (samples.shift_kernel(), samples.shift_kernel(meets=False)):
            self.assertIsNone(parting(kernel))
            self.assertIs(bool(parted_region(kernel)), False)
        self.assertEqual(parted_papers(samples.shift_kernel(meets=False)), {})
        self.assertEqual(parted_papers(samples.shift_kernel()), {1: []})
        self.assertIs(is_parted_papers(samples.shift_kernel(), {1: ()}), True)

    def test_is_parting_of_any_value(self):
        kernel = guarded(WITHIN)
        good = ({"n": (1, 1)}, (0, 0), (0, 0), (0, 1), 1, ())
        self.assertIs(is_parting(kernel, good), True)
        self.assertIs(is_parting(kernel, ({"n": (2, 1)}, (1, 0), (0, 0), (0, 1), 1, ())), True)
        for at, things in ((0, ({"n": (1, 0)}, {"n": (1, True)}, None, {})), (1, ((1, 0), (False, 0), None, [0, 0])),
                           (2, ((0, 1), (0, 2), None, (0, False))), (3, ((0, 0), (0, 2), None, (0, True))),
                           (4, (0, True, 2, None)), (5, ((0,), None, []))):
            for thing in things:
                self.assertIs(is_parting(kernel, good[:at] + (thing,) + good[at + 1:]), False, thing)
        for thing in (None, 5, list(good), good[:5], good + (1,), {}):
            self.assertIs(is_parting(kernel, thing), False)
        words = guarded(WITHIN, body=(("if", WITHIN, (("let", "x", "f", ()), ("meet",)), ()),))
        self.assertIs(is_parting(words, good[:4] + (2, ())), True)
        self.assertIs(is_parting(words, good[:4] + (1, ())), False)

    def test_is_parted_papers_of_any_value(self):
        kernel = guarded(WITHIN, sizes=(("n", (0,)),))
        papers = parted_papers(kernel)
        rings = papers[1]
        self.assertGreater(len(rings), 1)
        self.assertIs(is_parted_papers(kernel, papers), True)
        self.assertIs(is_parted_papers(kernel, {1: tuple(tuple(one) for one in rings)}), True)
        self.assertIs(is_parted_papers(kernel, {1: [one + one for one in rings]}), True)
        for thing in (None, 5, {}, [rings], {True: rings}, {1: rings[1:]}, {1: rings + rings}, {1: None}, {0: rings},
                      {1: [[]] + rings[1:]}, {1: rings, 2: []}, {1: [None] + rings[1:]}, {1: {0: rings}}):
            self.assertIs(is_parted_papers(kernel, thing), False, thing)
        self.assertIs(is_parted_papers(guarded(WITHIN), papers), False)

    def test_a_parting_or_papers_never_both(self):
        counts = [0, 0]
        for seed in range(600):
            kernel = samples.made_kernel(seed, many=9)
            found = parting(kernel)
            papers = parted_papers(kernel)
            region = parted_region(kernel)
            self.assertEqual(found is None, papers is not None)
            self.assertEqual(bool(region), found is not None)
            counts[found is None] += 1
            if found is not None:
                self.assertIs(is_parting(kernel, found), True)
                self.assertIn(found[0], region)
                self.assertEqual(list(found[0]), sorted(found[0]))
            else:
                self.assertEqual(list(papers), meetings(kernel))
                self.assertIs(is_parted_papers(kernel, papers), True)
                for point, rings in papers.items():
                    for own, (_, _, system) in zip(rings, parted_cases(kernel, point)):
                        self.assertTrue(is_ring(system, own))
                        self.assertEqual(own, ring(system))
        self.assertGreater(min(counts), 40)

    def test_the_region_gone_through(self):
        told = [0, 0]
        for seed in range(300):
            kernel = samples.made_kernel(seed, many=9)
            region = parted_region(kernel)
            for sizes in samples.all_sizes_up_to(kernel, 2):
                wanted = sizes_parted(kernel, sizes)
                self.assertEqual(sizes in region, wanted, (seed, sizes))
                told[wanted] += 1
        self.assertGreater(min(told), 60)

    def test_parted_meetings_stand_still_in_every_order(self):
        counts = [0, 0]
        for seed in range(500):
            kernel = samples.made_kernel(seed, many=6)
            region = parted_region(kernel)
            for sizes in itertools.islice(samples.all_sizes_up_to(kernel, 1), 2):
                plain = runs.Plain(kernel, sizes)
                if len(plain.cells) > 6:
                    continue
                for order in plain.orders(60) or []:
                    still = plain.outcome(order)[0] != "done"
                    self.assertEqual(still, sizes in region)
                    counts[still] += 1
        self.assertGreater(min(counts), 40)

    def test_results_are_new(self):
        kernel = guarded(WITHIN, sizes=(("n", (0,)),))
        papers = parted_papers(kernel)
        papers[1][0].append(9)
        papers[1].append(9)
        parted_cases(kernel, 1)[0][2].append(9)
        self.assertIs(is_parted_papers(kernel, parted_papers(kernel)), True)
        self.assertTrue(is_point([], {}))


if __name__ == "__main__":
    unittest.main()
