"""Point [94]: covers, each cell of a window done just once."""

import itertools
import random
import unittest

import places
import runs
import samples
from lanesmeet.covers import (
    are_cover_papers, cover_papers, covered, double, double_cases, missing, missing_sayings, stray)
from lanesmeet.differences import least_point, ring
from lanesmeet.errors import BadKernel, BadPoints, BadWindow, TooMany
from lanesmeet.kernels import Kernel
from lanesmeet.meaning import cases_of, cell_of, is_there, marked, same_cell
from lanesmeet.papers import is_tree
from lanesmeet.sayings import first_point, free_names, holds, is_saying
from lanesmeet.trimming import shielded

ONE = samples.ONE
B = (0, 0)
LANE = ("lane", 1)
BLOCK = ("block", 0, 0)
LET = ("let", "x", "f", ())
WHOLE = ((0, 0),)


def kernel_of(body=None, more=1, **change):
    """The example of the point: each lane of tiles + 1 blocks puts into its cell."""
    put = ("put", ("a", ((BLOCK, LANE),)), "x")
    told = {"width": 4, "lanes": (1, 4), "blocks": (("tiles", "n", more), ONE), "sizes": (("n", (0, 1)),),
            "promises": (), "arrays": (("far", "a", ("n",)), ("far", "b", ("n", "n")), ("shared", "s", (4,))),
            "body": (LET, put) if body is None else body}
    return Kernel(**{**told, **change})


def deeds_at(kernel, sizes, points):
    return sorted(one for one in runs.Plain(kernel, sizes).cells if one[0] in points)


def is_within(kernel, sizes, positions, window, names):
    for at, (low, high), name in zip(positions, window, names):
        size = kernel.width * sizes[name][0] + sizes[name][1]
        if not low <= at <= size - 1 - high:
            return False
    return True


def told_strays(kernel, points, window):
    return [(point, choice, part, rows + more) for point in points for choice, rows in cases_of(kernel, point)
            for part, more in places.beyond_rows(places.bounds_of(kernel, point, choice, window))]


def told_doubles(kernel, points):
    """All double cases, by the words of the document."""
    found = []
    for one, other in itertools.combinations_with_replacement(points, 2):
        names = ["block 0", "block 1"] + ["turn " + loop[1] for loop in places.loops_at(kernel, one) if loop[0] == "long"]
        for first, rows in cases_of(kernel, one):
            for second, later in cases_of(kernel, other):
                if first[2] != second[2] or one == other and second < first:
                    continue
                cell = same_cell(kernel, one, first, other, second)
                if cell is None:
                    continue
                base = rows + marked(later) + cell
                if one != other or first != second:
                    found.append((one, other, first, second, base))
                    continue
                for at in range(len(names)):
                    how = [row for name in names[:at] for row in ((name, name + " b", 0), (name + " b", name, 0))]
                    found.append((one, other, first, second, base + how + [(names[at], names[at] + " b", -1)]))
    return found


def made_cover(seed):
    """Kernels of which some cover a window: a kernel, chosen points, a window."""
    r = random.Random(seed)
    width, lanes, shorts = r.choice(((4, 4, 1), (4, 2, 2), (2, 2, 1), (2, 1, 2), (3, 3, 1), (1, 1, 1), (4, 1, 4), (2, 2, 2)))
    rests = tuple(sorted(r.sample(range(width), r.randint(1, min(2, width)))))
    low, high = r.choice(((0, 0), (0, 0), (1, 0), (0, 1), (1, 2), (5, 0)))
    small = LANE
    if shorts > 1:
        turn = ("turn", "k")
        small = r.choice((("plus", LANE, ("times", ("is", lanes), turn)), ("plus", turn, ("times", ("is", shorts), LANE))))
    if low:
        small = ("plus", small, ("is", low))
    word = r.choice(("put", "put", "add", "take"))
    way = r.random()
    form = ("turn", "t", 0) if way < 0.35 else BLOCK
    two = r.random() < 0.3
    where = ((form, small),) + (((("turn", "u", 0), ("is", 0)),) if two else ())
    array = "b" if two else "a"
    deed = ("take", "y", (array, where)) if word == "take" else (word, (array, where), "x")
    if r.random() < 0.85:
        top = (form, ("plus", small, ("is", high))) if high else where[0]
        deed = ("if", ("within", top, "n"), (deed,), ())
    elif r.random() < 0.5:
        deed = ("if", ("order", (form, small), (("tiles", "n", 0), ("is", 0))), (deed,), (deed,))
    if shorts > 1:
        deed = ("short", "k", shorts, (deed,))
    more = r.choice((1, 1, 1, 2, 0))
    if two:
        deed = ("long", "u", ("none", None, 0), ("tiles", "m", 0), (deed,))
    if form != BLOCK:
        first = r.choice((0, 0, 0, 1))
        deed = ("long", "t", ("none", None, first), ("tiles", "n", more), (deed,))
        if r.random() < 0.3:
            deed = ("if", ("order", (BLOCK, ("is", 0)), (("none", None, 0), ("is", 0))), (deed,), ())
    blocks = (ONE, ONE) if form != BLOCK and r.random() < 0.8 else (("tiles", "n", more), ONE)
    kernel = Kernel(width, (1, lanes), blocks, (("n", rests), ("m", (0,))), r.choice(((), (("n", None, 2),))),
                    (("far", "a", ("n",)), ("far", "b", ("n", "m"))), (LET, deed))
    points = tuple(point for point in places.deed_points(kernel))
    # On the axis of m just the offset 0 is done: the window is whole for a width of 1 alone.
    return kernel, points, ((low, high),) + (((0, 0),) if two else ())


def made_chosen(seed):
    """Kernels by a seed, with chosen points and a window; None if no far array has a deed."""
    r = random.Random(seed)
    kernel = samples.made_kernel(seed, many=7)
    ways = {}
    for point in places.deed_points(kernel):
        array = places.array_at(kernel, point)
        if array[0] == "far":
            ways.setdefault((kernel.statements[point][0], array[1]), []).append(point)
    if not ways:
        return None
    points = r.choice(sorted(ways.values()))
    points = tuple(sorted(r.sample(points, r.randint(1, len(points)))))
    names = places.array_at(kernel, points[0])[2]
    return kernel, points, tuple((r.randint(0, 2), r.randint(0, 2)) for _ in names)


def all_made(many):
    """Kernels with chosen points and windows, of both sorts."""
    found = [made_cover(seed) for seed in range(many)] + [made_chosen(seed) for seed in range(many)]
    return [one for one in found if one is not None]


class Errors(unittest.TestCase):
    def test_errors_in_order(self):
        calls = (stray, missing_sayings, missing, covered, cover_papers)
        for thing in samples.NO_KERNELS:
            for call in calls:
                with self.assertRaises(BadKernel):
                    call(thing, None, None)
            for call in (lambda: double(thing, None), lambda: are_cover_papers(thing, None, None, None)):
                with self.assertRaises(BadKernel):
                    call()
        put = ("put", ("a", ((BLOCK, LANE),)), "x")
        kernel = kernel_of((LET, put, put, ("add", put[1], "x"), ("put", ("b", ((BLOCK, LANE),) * 2), "x"),
                            ("put", ("s", (LANE,)), "x"), ("meet",), ("take", "y", put[1]), ("take", "y", ("s", (LANE,)))))
        for points in (None, 1, [1], (), (0,), (6,), (9,), (-1,), (True,), (1, True), (2, 1), (1, 1), (1, 3), (1, 4), (5,), (8,),
                       (1, 7), ("1",), {1: 1}, (1, 2, 4)):
            for call in calls:
                with self.assertRaises(BadPoints):
                    call(kernel, points, None)
            for call in (lambda: double(kernel, points), lambda: are_cover_papers(kernel, points, None, None)):
                with self.assertRaises(BadPoints):
                    call()
        for window in (None, (), [(0, 0)], ((0, 0), (0, 0)), ([0, 0],), ((0,),), ((0, 0, 0),), ((0, 65),), ((-1, 0),),
                       ((0, True),), ((False, 0),), (None,), (("0", 0),), 5):
            for call in calls:
                with self.assertRaises(BadWindow):
                    call(kernel, (1, 2), window)
            with self.assertRaises(BadWindow):
                are_cover_papers(kernel, (1, 2), window, None)
        for points in ((1,), (1, 2), (3,), (7,)):
            covered(kernel, points, ((0, 64),))
        covered(kernel, (4,), ((64, 0), (0, 0)))

    def test_too_many(self):
        body = (("put", ("a", ((BLOCK, LANE),)), "x"),)
        for name in "klm":
            body = (("short", name, 8, body),)
        many = kernel_of((LET,) + body, lanes=(2, 8), sizes=(("n", (0, 1, 2, 3)),))
        for call in (lambda: stray(many, (4,), WHOLE), lambda: double(many, (4,)), lambda: missing(many, (4,), WHOLE),
                     lambda: missing_sayings(many, (4,), WHOLE), lambda: covered(many, (4,), WHOLE),
                     lambda: cover_papers(many, (4,), WHOLE), lambda: are_cover_papers(many, (4,), WHOLE, ([], [], {}))):
            with self.assertRaises(TooMany) as caught:
                call()
            self.assertEqual(caught.exception.most, 20000)
        body = (("put", ("a", ((BLOCK, LANE),)), "x"), ("put", ("a", ((BLOCK, LANE),)), "x"))
        for name in "klm":
            body = (("short", name, 8, body),)
        with self.assertRaises(TooMany):
            stray(kernel_of((LET,) + body, lanes=(2, 8), sizes=(("n", (0,)),)), (4, 5), WHOLE)
        few = kernel_of((LET, ("short", "k", 8, (("short", "l", 8, (("put", ("a", ((BLOCK, ("is", 0)),)), "x"),)),))), lanes=(1, 4))
        with self.assertRaises(TooMany):
            double(few, (3,))


class ByHand(unittest.TestCase):
    def test_example(self):
        kernel = kernel_of()
        self.assertEqual(covered(kernel, (1,), WHOLE), ("stray", {"n": (0, 0)}, (1, B, B, ())))
        found = shielded(kernel)[0]
        self.assertEqual(covered(found, (2,), WHOLE), ("once",))
        self.assertIs(are_cover_papers(found, (2,), WHOLE, cover_papers(found, (2,), WHOLE)), True)
        less = shielded(kernel_of(more=0))[0]
        self.assertEqual(covered(less, (1,), WHOLE), ("missing", {"n": (0, 1)}, ((0, 0),)))
        self.assertIsNone(cover_papers(less, (1,), WHOLE))
        self.assertEqual(missing(less, (1,), WHOLE), ({"n": (0, 1)}, ((0, 0),)))

    def test_windows(self):
        kernel = shielded(kernel_of())[0]
        # The cells 0 and 1 are not in the window, nor is the last one.
        self.assertEqual(stray(kernel, (2,), ((2, 0),)), ({"n": (1, 0)}, (2, B, B, ())))
        self.assertEqual(stray(kernel, (2,), ((0, 4),)), ({"n": (1, 0)}, (2, B, B, ())))
        self.assertEqual(stray(kernel, (2,), ((0, 1),)), ({"n": (0, 1)}, (2, B, B, ())))
        self.assertIsNone(missing(kernel, (2,), ((2, 1),)))
        inner = kernel_of((LET, ("if", ("within", (BLOCK, ("plus", LANE, ("is", 1))), "n"), (
            ("put", ("a", ((BLOCK, LANE),)), "x"),), ())))
        self.assertEqual(covered(inner, (2,), ((0, 1),)), ("once",))
        # With a rest of 0 the last cell of all has the offset 3.
        self.assertEqual(covered(inner, (2,), WHOLE), ("missing", {"n": (1, 0)}, ((0, 3),)))

    def test_double(self):
        put = ("put", ("a", ((BLOCK, LANE),)), "x")
        self.assertIsNone(double(kernel_of(), (1,)))
        twice = kernel_of((LET, put, put))
        self.assertEqual(double(twice, (1, 2)), ({"n": (0, 0)}, (1, B, B, ()), (2, B, B, ())))
        self.assertIsNone(double(twice, (1,)))
        same = kernel_of((LET, ("put", ("a", ((BLOCK, ("is", 0)),)), "x")))
        self.assertEqual(double(same, (1,)), ({"n": (0, 0)}, (1, B, (0, 0), ()), (1, B, (0, 1), ())))
        still = kernel_of((LET, ("put", ("a", ((("none", None, 0), LANE),)), "x")))
        self.assertEqual(double(still, (1,)), ({"n": (1, 0)}, (1, (0, 0), B, ()), (1, (1, 0), B, ())))
        # Of two lanes the greater one comes to the cell in the lesser block: the pair is ascending all the same.
        shift = kernel_of((LET, ("put", ("a", ((BLOCK, ("times", LANE, ("is", 4))),)), "x")))
        self.assertEqual(double(shift, (1,)), ({"n": (1, 0)}, (1, (0, 0), (0, 1), ()), (1, (1, 0), (0, 0), ())))

    def test_missing_is_told_by_rests_and_offsets(self):
        kernel = kernel_of(more=0)
        found = missing_sayings(kernel, (1,), WHOLE)
        self.assertEqual(list(found), [((rest,), (offset,)) for rest in (0, 1) for offset in range(4)])
        for (rests, offsets), saying in found.items():
            self.assertEqual(first_point(saying), {"cell 0": 0, "tiles n": 0} if (rests, offsets) == ((1,), (0,)) else None)

    def test_two_coordinates(self):
        where = (("block", 0, 0), ("lane", 0)), (("block", 1, 0), ("lane", 1))
        kernel = kernel_of((LET, ("put", ("b", where), "x")), width=2, lanes=(2, 2), sizes=(("n", (0, 1)),),
                           blocks=(("tiles", "n", 1), ("tiles", "n", 1)))
        found = shielded(kernel)[0]
        self.assertEqual(covered(found, (2,), ((0, 0), (0, 0))), ("once",))
        self.assertEqual(covered(found, (2,), ((0, 0), (1, 0))), ("stray", {"n": (1, 0)}, (2, B, B, ())))
        less = shielded(kernel_of((LET, ("put", ("b", where), "x")), width=2, lanes=(2, 1), blocks=kernel.blocks))[0]
        self.assertEqual(covered(less, (2,), ((0, 0), (0, 0))), ("missing", {"n": (1, 0)}, ((0, 0), (0, 1))))


class GoneThrough(unittest.TestCase):
    def test_strays(self):
        told = [0, 0]
        for kernel, points, window in all_made(200):
            first = next((case for case in told_strays(kernel, points, window) if ring(case[3]) is None), None)
            found = stray(kernel, points, window)
            told[found is None] += 1
            if first is None:
                self.assertIsNone(found)
                continue
            point, choice, _, system = first
            numbers = least_point(system)
            wanted = places.sizes_by(kernel, choice[2], numbers), places.instance_by(kernel, point, choice, numbers)
            self.assertEqual(found, wanted)
            self.assertTrue(is_there(kernel, *found))
        self.assertGreater(min(told), 50)

    def test_doubles(self):
        told = [0, 0]
        for kernel, points, _ in all_made(150):
            self.assertEqual(double_cases(kernel, points), told_doubles(kernel, points))
            first = next((case for case in told_doubles(kernel, points) if ring(case[4]) is None), None)
            found = double(kernel, points)
            told[found is None] += 1
            if first is None:
                self.assertIsNone(found)
                continue
            one, other, choice, second, system = first
            numbers = least_point(system)
            pair = sorted([places.instance_by(kernel, one, choice, numbers), places.instance_by(kernel, other, second, numbers, " b")])
            self.assertEqual(found, (places.sizes_by(kernel, choice[2], numbers), pair[0], pair[1]))
            self.assertLess(found[1], found[2])
            self.assertEqual(cell_of(kernel, found[0], found[1]), cell_of(kernel, found[0], found[2]))
        self.assertGreater(min(told), 40)

    def test_missing_sayings(self):
        told = [0, 0]
        for kernel, points, window in all_made(60):
            names = places.array_at(kernel, points[0])[2]
            found = missing_sayings(kernel, points, window)
            offsets = list(itertools.product(range(kernel.width), repeat=len(names)))
            rests = list(itertools.product(*(rests for _, rests in kernel.sizes)))
            self.assertEqual(list(found), list(itertools.product(rests, offsets)))
            free = {"tiles " + name for name, _ in kernel.sizes} | {f"cell {axis}" for axis in range(len(names))}
            for saying in found.values():
                self.assertTrue(is_saying(saying))
                self.assertLessEqual(set(free_names(saying)), free)
            for tiles in itertools.product(range(-1, 3), repeat=len(kernel.sizes)):
                for rest in rests:
                    sizes = {name: (number, at) for (name, _), number, at in zip(kernel.sizes, tiles, rest)}
                    fits = min(tiles) >= 0 and sizes in list(samples.all_sizes_up_to(kernel, 2))
                    done = {cell_of(kernel, sizes, one)[1] for one in deeds_at(kernel, sizes, points)} if fits else set()
                    for own in offsets:
                        for cell in itertools.product(range(-1, 4), repeat=len(names)):
                            positions = tuple(zip(cell, own))
                            numbers = [kernel.width * tile + offset for tile, offset in positions]
                            wanted = fits and positions not in done and is_within(kernel, sizes, numbers, window, names)
                            point = {f"cell {axis}": tile for axis, tile in enumerate(cell)}
                            point.update({"tiles " + name: sizes[name][0] for name in sizes})
                            saying = found[(rest, own)]
                            if min(cell) < 0 or max(cell) > 2 or r_often(point):
                                self.assertEqual(holds(saying, {name: point[name] for name in free_names(saying)}), wanted)
                                told[wanted] += 1
        self.assertGreater(min(told), 200)

    def test_missing_is_at_the_first_point(self):
        told = [0, 0]
        for kernel, points, window in all_made(150):
            found = missing(kernel, points, window)
            wanted = None
            for (rests, offsets), saying in missing_sayings(kernel, points, window).items():
                numbers = first_point(saying)
                if numbers is not None:
                    positions = tuple((numbers[f"cell {axis}"], offset) for axis, offset in enumerate(offsets))
                    wanted = places.sizes_by(kernel, rests, numbers), positions
                    break
            self.assertEqual(found, wanted)
            told[found is None] += 1
        self.assertGreater(min(told), 40)

    def test_once_exactly_if_each_cell_is_done_once(self):
        told = {}
        for kernel, points, window in all_made(250):
            names = places.array_at(kernel, points[0])[2]
            found = covered(kernel, points, window)
            told[found[0]] = told.get(found[0], 0) + 1
            wrong = None
            for sizes in samples.all_sizes_up_to(kernel, 3):
                done = [cell_of(kernel, sizes, one)[1] for one in deeds_at(kernel, sizes, points)]
                ends = [kernel.width * sizes[name][0] + sizes[name][1] for name in names]
                cells = {tuple(divmod(at, kernel.width) for at in numbers)
                         for numbers in itertools.product(*(range(end) for end in ends))
                         if is_within(kernel, sizes, numbers, window, names)}
                if sorted(done) != sorted(cells):
                    wrong = sizes
                    break
            if found == ("once",):
                self.assertIsNone(wrong)
            elif max([tiles for tiles, _ in found[1].values()], default=0) <= 3:
                self.assertIsNotNone(wrong)
            one, two, three = stray(kernel, points, window), double(kernel, points), missing(kernel, points, window)
            wanted = (("stray",) + one if one else ("double",) + two if two else ("missing",) + three if three else ("once",))
            self.assertEqual(found, wanted)
            self.assertEqual(cover_papers(kernel, points, window) is None, found != ("once",))
        self.assertEqual(set(told), {"once", "stray", "double", "missing"})
        self.assertGreater(min(told.values()), 15)

    def test_papers(self):
        told = 0
        for kernel, points, window in all_made(200):
            papers = cover_papers(kernel, points, window)
            if papers is None:
                continue
            told += 1
            strays, doubles, trees = papers
            self.assertEqual(strays, [ring(case[3]) for case in told_strays(kernel, points, window)])
            self.assertEqual(doubles, [ring(case[4]) for case in told_doubles(kernel, points)])
            sayings = missing_sayings(kernel, points, window)
            self.assertEqual(list(trees), list(sayings))
            for key in trees:
                self.assertTrue(is_tree([(sayings[key], True)], trees[key]))
            self.assertIs(are_cover_papers(kernel, points, window, papers), True)
        self.assertGreater(told, 20)


def r_often(point):
    """A part of all points, always the same one."""
    return sum((at + 3) * (number + 5) for at, number in enumerate(point.values())) % 5 == 0


class Papers(unittest.TestCase):
    def test_are_cover_papers_of_any_value(self):
        kernel = shielded(kernel_of())[0]
        strays, doubles, trees = cover_papers(kernel, (2,), WHOLE)
        self.assertTrue(strays and doubles)
        key = ((0,), (1,))
        self.assertIs(are_cover_papers(kernel, (2,), WHOLE, (
            tuple(map(tuple, strays)), [own + own for own in doubles], dict(reversed(list(trees.items()))))), True)
        for thing in (None, 5, [strays, doubles, trees], (strays, doubles), (strays, doubles, trees, {}), (doubles, strays, trees),
                      (strays[1:], doubles, trees), (strays, doubles[1:], trees), (strays, doubles + doubles[:1], trees),
                      (strays, doubles, None), (strays, doubles, {}), (strays, doubles, list(trees)), (None, doubles, trees),
                      (strays, None, trees), (strays, doubles, {**trees, key: None}), (strays, doubles, {**trees, 5: trees[key]}),
                      (strays, doubles, {own: trees[own] for own in trees if own != key}), ([[]] * len(strays), doubles, trees),
                      (strays, doubles, {**trees, ((0,), (True,)): None}),
                      (strays, doubles, {own if own != key else ((False,), (1,)): tree for own, tree in trees.items()})):
            self.assertIs(are_cover_papers(kernel, (2,), WHOLE, thing), False)
        self.assertIs(are_cover_papers(kernel_of(), (1,), WHOLE, (strays, doubles, trees)), False)
        strays[0].append(1)
        self.assertIs(are_cover_papers(kernel, (2,), WHOLE, cover_papers(kernel, (2,), WHOLE)), True)


if __name__ == "__main__":
    unittest.main()
