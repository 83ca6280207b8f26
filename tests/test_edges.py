"""Points [90] and [91]: what is beyond its array, how far, and which promise is enough."""

import itertools
import unittest

import places
import runs
import samples
from lanesmeet.differences import is_ring, least_point, ring
from lanesmeet.edges import are_beyond_papers, beyond, beyond_papers, beyond_region, enough, farthest
from lanesmeet.errors import BadArray, BadAxis, BadKernel, BadName, BadRegion, BadSide, TooMany
from lanesmeet.kernels import Kernel
from lanesmeet.meaning import cases_of, is_there
from lanesmeet.parted import parted_region
from lanesmeet.races import race_region
from lanesmeet.regions import Region, all_sizes

ONE = samples.ONE
B = (0, 0)
LANE = ("lane", 1)
BLOCK = ("block", 0, 0)
LET = ("let", "x", "f", ())


def kernel_of(where=((BLOCK, LANE),), more=1, **change):
    """The example of point [94]: each lane of tiles + 1 blocks puts into its cell."""
    told = {"width": 4, "lanes": (1, 4), "blocks": (("tiles", "n", more), ONE), "sizes": (("n", (0, 1)),),
            "promises": (), "arrays": (("far", "a", ("n",)),), "body": (LET, ("put", ("a", where), "x"))}
    return Kernel(**{**told, **change})


def shared_kernel(small, counts=(4,)):
    return kernel_of(arrays=(("shared", "s", counts),), body=(LET, ("put", ("s", small), "x")))


def told_edges(kernel, point):
    """All edge cases of a point by the words of the document."""
    return [(choice, part, rows + more) for choice, rows in cases_of(kernel, point)
            for part, more in places.beyond_rows(places.bounds_of(kernel, point, choice))]


def overhang_of(kernel, sizes, instance, axis, side):
    positions, ends = places.positions_of(kernel, sizes, instance)
    return -positions[axis] if side == 0 else positions[axis] - (ends[axis] - 1)


def deeds_at(kernel, sizes):
    return sorted(runs.Plain(kernel, sizes).cells)


def made(seed):
    return samples.made_kernel(seed, many=7)


class Beyond(unittest.TestCase):
    def test_errors(self):
        for thing in samples.NO_KERNELS:
            for call in (lambda: beyond(thing), lambda: beyond_papers(thing), lambda: are_beyond_papers(thing, None),
                         lambda: beyond_region(thing)):
                with self.assertRaises(BadKernel):
                    call()

    def test_too_many(self):
        body = (("put", ("a", ((BLOCK, LANE), (BLOCK, LANE))), "x"),)
        for name in "klm":
            body = (("short", name, 8, body),)
        many = kernel_of(lanes=(2, 8), arrays=(("far", "a", ("n", "n")),), body=(LET,) + body)
        for call in (lambda: beyond(many), lambda: beyond_papers(many), lambda: are_beyond_papers(many, {}),
                     lambda: beyond_region(many)):
            with self.assertRaises(TooMany) as caught:
                call()
            self.assertEqual(caught.exception.most, 20000)

    def test_too_many_of_all_points_together(self):
        body = (("put", ("a", ((BLOCK, LANE),)), "x"), ("take", "x", ("a", ((BLOCK, LANE),))))
        for name in "klm":
            body = (("short", name, 8, body),)
        many = kernel_of(lanes=(2, 8), sizes=(("n", (0,)),), body=(LET,) + body)
        for call in (beyond, beyond_papers, beyond_region, lambda one: are_beyond_papers(one, {})):
            with self.assertRaises(TooMany):
                call(many)

    def test_example(self):
        kernel = kernel_of()
        self.assertEqual(beyond(kernel), ({"n": (0, 0)}, (1, B, B, ())))
        self.assertIsNone(beyond_papers(kernel))
        region = beyond_region(kernel)
        self.assertIsInstance(region, Region)
        self.assertEqual(region, all_sizes(kernel.sizes, ()))
        within = kernel_of(more=0)
        self.assertIsNone(beyond(within))
        self.assertIs(bool(beyond_region(within)), False)
        self.assertEqual(list(beyond_papers(within)), [1])
        self.assertEqual(len(beyond_papers(within)[1]), 16)

    def test_shared_arrays(self):
        self.assertIsNone(beyond(shared_kernel((LANE,))))
        # All bounds are kept by the choices alone: there is no edge case.
        self.assertEqual(beyond_papers(shared_kernel((LANE,))), {1: []})
        self.assertEqual(beyond(shared_kernel((("plus", LANE, ("is", 1)),))), ({"n": (0, 0)}, (1, B, (0, 3), ())))
        self.assertEqual(beyond(shared_kernel((("minus", LANE, ("is", 1)),))), ({"n": (0, 0)}, (1, B, B, ())))
        two = shared_kernel((("is", 2), ("is", 3)), (3, 4))
        self.assertIsNone(beyond(two))
        self.assertIsNotNone(beyond(shared_kernel((("is", 2), ("is", 4)), (3, 4))))
        self.assertIsNotNone(beyond(shared_kernel((("is", 3), ("is", 3)), (3, 4))))

    def test_one_name_on_both_sides(self):
        # The tile of n less its tiles is told by the choice alone.
        tiles = ("tiles", "n", 0)
        self.assertIsNone(beyond(kernel_of(where=((tiles, ("is", 0)),), sizes=(("n", (1,)),))))
        self.assertEqual(beyond_papers(kernel_of(where=((tiles, ("is", 0)),), sizes=(("n", (1,)),)))[1],
                         [[0, 5]] * 4)
        found = beyond(kernel_of(where=((tiles, ("is", 1)),), sizes=(("n", (1,)),)))
        self.assertEqual(found, ({"n": (0, 1)}, (1, B, B, ())))

    def test_the_first_edge_case(self):
        where = ((("turn", "t", 0), ("minus", LANE, ("is", 1))), (BLOCK, ("plus", LANE, ("is", 2))))
        loop = ("long", "t", ("none", None, 0), ("tiles", "n", 0), (("put", ("a", where), "x"),))
        kernel = kernel_of(arrays=(("far", "a", ("n", "n")),), body=(LET, loop))
        # Lane 0 is below 0 on the axis 0 in turn 0; nothing before it is there.
        self.assertEqual(beyond(kernel), ({"n": (1, 0)}, (2, B, B, (0,))))

    def test_cases_are_as_told(self):
        told = 0
        for seed in range(300):
            kernel = made(seed)
            wanted = {point: told_edges(kernel, point) for point in places.deed_points(kernel)}
            first = next(((point, choice, system) for point in wanted for choice, _, system in wanted[point]
                          if ring(system) is None), None)
            if first is None:
                papers = beyond_papers(kernel)
                self.assertEqual(list(papers), list(wanted))
                for point in papers:
                    self.assertEqual(papers[point], [ring(system) for _, _, system in wanted[point]])
                    for found, (_, _, system) in zip(papers[point], wanted[point]):
                        self.assertTrue(is_ring(system, found))
                self.assertIs(are_beyond_papers(kernel, papers), True)
                self.assertIsNone(beyond(kernel))
                told += any(papers.values())
            else:
                point, choice, system = first
                numbers = least_point(system)
                self.assertEqual(beyond(kernel), (
                    places.sizes_by(kernel, choice[2], numbers), places.instance_by(kernel, point, choice, numbers)))
                self.assertIsNone(beyond_papers(kernel))
        self.assertGreater(told, 15)

    def test_an_instance_or_papers_never_both(self):
        counts = [0, 0]
        for seed in range(500):
            kernel = made(seed)
            found, papers, region = beyond(kernel), beyond_papers(kernel), beyond_region(kernel)
            self.assertEqual(found is None, papers is not None)
            self.assertEqual(bool(region), found is not None)
            counts[found is None] += 1
            if found is not None:
                sizes, instance = found
                self.assertIn(sizes, region)
                self.assertEqual(list(sizes), sorted(sizes))
                self.assertTrue(is_there(kernel, sizes, instance))
                self.assertTrue(places.beyond_axes(kernel, sizes, instance))
        self.assertGreater(min(counts), 50)

    def test_the_region_gone_through(self):
        told = [0, 0]
        for seed in range(300):
            kernel = made(seed)
            region = beyond_region(kernel)
            self.assertEqual((region.sizes, region.promises), (kernel.sizes, kernel.promises))
            for sizes in samples.all_sizes_up_to(kernel, 3):
                wanted = any(places.beyond_axes(kernel, sizes, one) for one in deeds_at(kernel, sizes))
                self.assertEqual(sizes in region, wanted, (seed, sizes))
                told[wanted] += 1
        self.assertGreater(min(told), 500)

    def test_just_one_edge_case_for_what_is_beyond(self):
        told = 0
        for seed in range(120):
            kernel = made(seed)
            for sizes in itertools.islice(samples.all_sizes_up_to(kernel, 2), 3, None):
                for one in deeds_at(kernel, sizes)[:12]:
                    numbers = {**samples.numbers_at(sizes), "block 0": one[1][0], "block 1": one[1][1]}
                    for loop, turn in zip(places.loops_at(kernel, one[0]), one[3]):
                        numbers["turn " + loop[1]] = turn
                    rests = tuple(sizes[name][1] for name, _ in kernel.sizes)
                    found = 0
                    for choice, _, system in told_edges(kernel, one[0]):
                        shorts = [turn for loop, turn in zip(places.loops_at(kernel, one[0]), one[3]) if loop[0] == "short"]
                        if choice[:3] == (one[2], tuple(shorts), rests):
                            found += all(numbers.get(a, 0) - numbers.get(b, 0) <= c for a, b, c in system)
                    self.assertEqual(found, bool(places.beyond_axes(kernel, sizes, one)))
                    told += found
        self.assertGreater(told, 200)

    def test_are_beyond_papers_of_any_value(self):
        kernel = kernel_of(more=0)
        papers = beyond_papers(kernel)
        rings = papers[1]
        self.assertIs(are_beyond_papers(kernel, {1: tuple(tuple(own) for own in rings)}), True)
        self.assertIs(are_beyond_papers(kernel, {1: [own + own for own in rings]}), True)
        for thing in (None, 5, {}, [rings], {True: rings}, {1: rings[1:]}, {1: rings + rings[:1]}, {1: None}, {0: rings},
                      {1: rings[:-1] + [[]]}, {1: rings, 2: []}, {1: [None] + rings[1:]}, {1: {0: rings}}):
            self.assertIs(are_beyond_papers(kernel, thing), False)
        self.assertIs(are_beyond_papers(kernel_of(), papers), False)
        papers[1][0].append(3)
        self.assertIs(are_beyond_papers(kernel, beyond_papers(kernel)), True)


class Farthest(unittest.TestCase):
    def test_errors_in_order(self):
        for thing in samples.NO_KERNELS:
            with self.assertRaises(BadKernel):
                farthest(thing, None, None, None)
        kernel = kernel_of()
        for array in (None, "b", "", 5, ("a",), ["a"], True):
            with self.assertRaises(BadArray):
                farthest(kernel, array, None, None)
        for axis in (None, 1, -1, True, False, "0", (0,)):
            with self.assertRaises(BadAxis):
                farthest(kernel, "a", axis, None)
        for side in (None, 2, -1, True, False, "0", (0,)):
            with self.assertRaises(BadSide):
                farthest(kernel, "a", 0, side)

    def test_too_many(self):
        body = (("put", ("a", ((BLOCK, LANE),)), "x"),)
        for name in "klm":
            body = (("short", name, 8, body),)
        many = kernel_of(lanes=(2, 8), body=(LET,) + body + body)
        with self.assertRaises(TooMany) as caught:
            farthest(many, "a", 0, 0)
        self.assertEqual(caught.exception.most, 20000)
        with self.assertRaises(BadSide):
            farthest(many, "a", 0, 2)

    def test_example(self):
        kernel = kernel_of()
        self.assertEqual(farthest(kernel, "a", 0, 1), (4, {"n": (0, 0)}, (1, B, (0, 3), ())))
        self.assertEqual(farthest(kernel, "a", 0, 0), (0, {"n": (0, 0)}, (1, B, B, ())))

    def test_endless_and_none(self):
        kernel = kernel_of(where=((("tiles", "n", 0), LANE),), sizes=(("n", (0,)), ("m", (0,))), arrays=(
            ("far", "a", ("m",)), ("far", "b", ("n",)), ("shared", "s", (2, 3))))
        self.assertEqual(farthest(kernel, "a", 0, 1), "endless")
        self.assertEqual(farthest(kernel, "a", 0, 0), (0, {"m": (0, 0), "n": (0, 0)}, (1, B, B, ())))
        for array, axis in (("b", 0), ("s", 0), ("s", 1)):
            for side in (0, 1):
                self.assertIsNone(farthest(kernel, array, axis, side))
        never = kernel_of(body=(LET, ("if", ("small", ("is", 1), "less", ("is", 1)), (("put", ("a", ((BLOCK, LANE),)), "x"),), ())))
        self.assertIsNone(farthest(never, "a", 0, 0))
        tied = kernel_of(where=((("tiles", "n", 0), LANE),), sizes=(("n", (0,)), ("m", (0,))),
                         arrays=(("far", "a", ("m",)),), promises=(("n", "m", 3),))
        self.assertEqual(farthest(tied, "a", 0, 1), (16, {"m": (0, 0), "n": (3, 0)}, (1, B, (0, 3), ())))

    def test_below_and_shared(self):
        kernel = kernel_of(where=((("block", 0, -1), ("minus", LANE, ("is", 1))),))
        self.assertEqual(farthest(kernel, "a", 0, 0), (5, {"n": (0, 0)}, (1, B, B, ())))
        self.assertEqual(farthest(kernel, "a", 0, 1), (-1, {"n": (0, 0)}, (1, B, (0, 3), ())))
        two = shared_kernel((("is", 1), ("plus", LANE, ("is", 2))), (3, 4))
        self.assertEqual(farthest(two, "s", 0, 0), (-1, {"n": (0, 0)}, (1, B, B, ())))
        self.assertEqual(farthest(two, "s", 0, 1), (-1, {"n": (0, 0)}, (1, B, B, ())))
        self.assertEqual(farthest(two, "s", 1, 0), (-2, {"n": (0, 0)}, (1, B, B, ())))
        self.assertEqual(farthest(two, "s", 1, 1), (2, {"n": (0, 0)}, (1, B, (0, 3), ())))

    def test_the_least_point_that_has_it(self):
        # Block b is as far below the tiles as it is small: the farthest is in the last block, wherever it is.
        kernel = kernel_of(more=0, promises=((None, "n", -2),))
        self.assertEqual(farthest(kernel, "a", 0, 0), (0, {"n": (2, 0)}, (1, B, B, ())))
        self.assertEqual(farthest(kernel, "a", 0, 1), (0, {"n": (2, 0)}, (1, (1, 0), (0, 3), ())))

    def test_gone_through(self):
        told = {"endless": 0, "none": 0, "number": 0, "equal": 0}
        for seed in range(300):
            kernel = made(seed)
            every = [(sizes, one) for sizes in samples.all_sizes_up_to(kernel, 3) for one in deeds_at(kernel, sizes)]
            for sort, name, counts in kernel.arrays:
                own = [(sizes, one) for sizes, one in every if places.array_at(kernel, one[0])[1] == name]
                for axis, side in itertools.product(range(len(counts)), (0, 1)):
                    found = farthest(kernel, name, axis, side)
                    numbers = [overhang_of(kernel, sizes, one, axis, side) for sizes, one in own]
                    if found == "endless":
                        told["endless"] += 1
                        grown = [overhang_of(kernel, sizes, one, axis, side) for sizes in samples.all_sizes_up_to(kernel, 5)
                                 for one in deeds_at(kernel, sizes) if places.array_at(kernel, one[0])[1] == name]
                        self.assertGreater(max(grown), max(numbers, default=-99))
                    elif found is None:
                        told["none"] += 1
                        self.assertEqual(numbers, [])
                    else:
                        told["number"] += 1
                        self.assertGreaterEqual(found[0], max(numbers, default=-99))
                        if max([tiles for tiles, _ in found[1].values()], default=0) <= 3:
                            self.assertEqual(found[0], max(numbers), (seed, found))
                            told["equal"] += 1
                        self.assertEqual(overhang_of(kernel, found[1], found[2], axis, side), found[0])
                        self.assertTrue(is_there(kernel, found[1], found[2]))
        self.assertGreater(min(told.values()), 20)

    def test_the_first_case_that_has_it(self):
        for seed in range(200):
            kernel = made(seed)
            for sort, name, counts in kernel.arrays:
                for axis, side in itertools.product(range(len(counts)), (0, 1)):
                    found = farthest(kernel, name, axis, side)
                    if found in (None, "endless"):
                        continue
                    first = None
                    for point in places.deed_points(kernel):
                        if places.array_at(kernel, point)[1] != name:
                            continue
                        for choice, system in cases_of(kernel, point):
                            rows = self.rows_from(kernel, point, choice, axis, side, found[0])
                            if first is None and rows is not None and ring(system + rows) is None:
                                first = (point, choice, least_point(system + rows))
                    point, choice, numbers = first
                    self.assertEqual(found[1:], (
                        places.sizes_by(kernel, choice[2], numbers), places.instance_by(kernel, point, choice, numbers)))

    def rows_from(self, kernel, point, choice, axis, side, number):
        """The rows that say that the overhang is at least number; None if it cannot be."""
        lane, turns, rests = places.knows(kernel, point, choice)
        sort, _, counts = places.array_at(kernel, point)
        part = places.place_of(kernel.statements[point])[1][axis]
        if sort == "shared":
            at = places.number_of(part, lane, turns, rests)
            return [] if (-at if side == 0 else at - counts[axis] + 1) >= number else None
        form, small = part
        at = places.number_of(small, lane, turns, rests) + kernel.width * form[2]
        name, tiles = places.name_of(form), "tiles " + counts[axis]
        if side == 0:
            row = (name, None, (-number - at) // kernel.width)
        else:
            row = (tiles, name, (at - rests[counts[axis]] + 1 - number) // kernel.width)
        if row[0] == row[1]:
            return [] if row[2] >= 0 else None
        return [row]


class Enough(unittest.TestCase):
    def test_errors_in_order(self):
        for thing in samples.NO_KERNELS + (samples.shift_kernel(),):
            with self.assertRaises(BadRegion):
                enough(thing, None, None)
        region = all_sizes((("n", (0,)), ("m", (0,))), ())
        for a, b in (("k", "n"), ("n", "k"), (5, "n"), ("n", 5), (None, None), ("n", "n"), ("tiles n", "n"), (True, "n"),
                     (("n",), "m"), (["n"], "m"), ("n", ["m"]), ("n", {})):
            with self.assertRaises(BadName):
                enough(region, a, b)

    def test_by_hand(self):
        sizes = (("n", (0, 1)), ("m", (0,)))
        every = all_sizes(sizes, ())
        self.assertEqual(enough(every, None, "n"), None)
        self.assertEqual(enough(every, "n", None), -1)
        self.assertIsNone(enough(every, "n", "m"))
        self.assertEqual(enough(every - every, "n", "m"), "any")
        told = {(0, 0): ("row", None, "tiles n", -2), (1, 0): ("and", (("row", "tiles m", "tiles n", 4), ("row", None, "tiles n", -3)))}
        region = Region(sizes, (), told)
        self.assertEqual(enough(region, "n", None), 1)
        self.assertIsNone(enough(region, "n", "m"))
        bound = Region(sizes, (), {(1, 0): told[(1, 0)]})
        self.assertEqual(enough(bound, "n", "m"), -5)
        self.assertEqual(enough(bound, "n", None), 2)
        # A race from two tiles on: at most one tile is enough.
        self.assertEqual(enough(race_region(samples.shift_kernel()), "n", None), 1)

    def test_it_is_the_weakest_promise(self):
        told = 0
        for seed in range(300):
            kernel = made(seed)
            names = [name for name, _ in kernel.sizes] + [None]
            for region in (beyond_region(kernel), parted_region(kernel), race_region(kernel)):
                for a, b in itertools.permutations(names, 2):
                    found = enough(region, a, b)
                    if found == "any":
                        self.assertFalse(region)
                        continue
                    for c in range(-8, 3) if found is None else (found, found + 1):
                        promised = Region(kernel.sizes, kernel.promises + ((a, b, c),), {
                            rests: ("or", tuple(("and", tuple(("row",) + row for row in system)) for system in region.told(rests)))
                            for rests in itertools.product(*(rests for _, rests in kernel.sizes))})
                        self.assertEqual(bool(promised), found is None or c > found)
                    told += found is not None
        self.assertGreater(told, 100)


if __name__ == "__main__":
    unittest.main()
