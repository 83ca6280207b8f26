"""Point [110]: lines of far memory, and what crews touch."""

import random
import unittest

import places
import runs
import samples
from lanesmeet.errors import BadCell, BadKernel, BadLayout, BadSizesAt, BadSpan, BadWidth, TooMany
from lanesmeet.kernels import Kernel
from lanesmeet.lines import line_of, touches_at
from lanesmeet.meaning import cell_of

ONE = samples.ONE
B = (0, 0)
LANE = ("lane", 1)
BLOCK = ("block", 0, 0)
LAYOUT = {"a": 0, "b": 1}
BAD_LAYOUTS = (None, 5, [], {}, {"a": 0}, {"a": 0, "b": 1, "s": 0}, {"a": 1, "b": 1}, {"a": 0, "b": 2}, {"a": 0, "b": -1},
               {"a": False, "b": 1}, {"a": 0, "b": True}, {"a": 0, "b": None}, {"a": 0, "c": 1}, (("a", 0), ("b", 1)), {"a": "0", "b": 1})
BAD_SPANS = (None, 0, 3, -1, 8, True, "2", (2,), 5)


def kernel_of(body=None, **change):
    """The example of point [111], with further arrays."""
    take = ("take", "x", ("a", ((BLOCK, ("plus", LANE, ("is", 1))),)))
    told = {"width": 4, "lanes": (1, 4), "blocks": (("tiles", "n", 0), ONE), "sizes": (("n", (0, 1)),), "promises": (),
            "arrays": (("far", "a", ("n",)), ("far", "b", ("n", "n")), ("shared", "s", (4,))),
            "body": (take,) if body is None else body}
    return Kernel(**{**told, **change})


def plain_line(layout, span, cell):
    array, positions = cell
    return array, tuple((tile, offset // span) if axis == layout[array] else (tile, offset)
                        for axis, (tile, offset) in enumerate(positions))


def plain_touches(kernel, width, sizes, layout, span):
    found = set()
    plain = runs.Plain(kernel, sizes)
    for one in plain.cells:
        if places.array_at(kernel, one[0])[0] == "far":
            crew = (one[2][0] * kernel.lanes[1] + one[2][1]) // width
            found.add(((one[1], crew, (one[0], one[3])), plain_line(layout, span, cell_of(kernel, sizes, one))))
    return sorted(found)


def made(seed):
    """A kernel by a seed, and all its widths, with a layout and a span."""
    r = random.Random(seed)
    kernel = samples.made_kernel(seed, many=8, lane_pairs=((1, 1), (1, 2), (2, 2), (1, 4), (2, 4), (1, 6)))
    layout = {name: r.randrange(len(names)) for sort, name, names in kernel.arrays if sort == "far"}
    span = r.choice([span for span in range(1, kernel.width + 1) if kernel.width % span == 0])
    count = kernel.lanes[0] * kernel.lanes[1]
    return kernel, [width for width in range(1, count + 1) if count % width == 0], layout, span


class Lines(unittest.TestCase):
    def test_errors_in_order(self):
        for thing in samples.NO_KERNELS:
            with self.assertRaises(BadKernel):
                line_of(thing, None, None, None)
            with self.assertRaises(BadKernel):
                touches_at(thing, None, None, None, None)
        kernel = kernel_of(promises=(("n", None, 8),))
        sizes = {"n": (2, 0)}
        for width in (None, 0, 3, True, 8):
            with self.assertRaises(BadWidth):
                touches_at(kernel, width, None, None, None)
        for thing in samples.NO_SIZES_AT:
            with self.assertRaises(BadSizesAt):
                touches_at(kernel, 2, thing, None, None)
        for layout in BAD_LAYOUTS:
            with self.assertRaises(BadLayout):
                line_of(kernel, layout, None, None)
            with self.assertRaises(BadLayout):
                touches_at(kernel, 2, sizes, layout, None)
        for span in BAD_SPANS:
            with self.assertRaises(BadSpan):
                line_of(kernel, LAYOUT, span, None)
            with self.assertRaises(BadSpan):
                touches_at(kernel, 2, sizes, LAYOUT, span)
        for cell in (None, 5, (), ("a",), ("c", ((0, 0),)), ("s", (0,), B), ("a", ((0, 4),)), ("a", ((0, -1),)), ("a", ((0,),)),
                     ("a", ((0, 0), (0, 0))), ("b", ((0, 0),)), ("a", [(0, 0)]), ["a", ((0, 0),)], ("a", ((True, 0),)),
                     ("a", ((0, False),)), ("a", ([0, 0],)), (["a"], ((0, 0),)), ("a", ((0, 0),), B), (None, ((0, 0),))):
            with self.assertRaises(BadCell):
                line_of(kernel, LAYOUT, 2, cell)

    def test_by_hand(self):
        kernel = kernel_of()
        self.assertEqual(line_of(kernel, LAYOUT, 2, ("a", ((7, 3),))), ("a", ((7, 1),)))
        self.assertEqual(line_of(kernel, LAYOUT, 4, ("a", ((-7, 3),))), ("a", ((-7, 0),)))
        self.assertEqual(line_of(kernel, LAYOUT, 1, ("a", ((10 ** 9, 3),))), ("a", ((10 ** 9, 3),)))
        self.assertEqual(line_of(kernel, LAYOUT, 2, ("b", ((1, 3), (2, 3)))), ("b", ((1, 3), (2, 1))))
        self.assertEqual(line_of(kernel, {"a": 0, "b": 0}, 2, ("b", ((1, 3), (2, 3)))), ("b", ((1, 1), (2, 3))))
        bare = kernel_of((("meet",),), arrays=(("shared", "s", (4,)),))
        self.assertEqual(touches_at(bare, 2, {"n": (3, 0)}, {}, 2), [])
        with self.assertRaises(BadLayout):
            touches_at(bare, 2, {"n": (3, 0)}, {"s": 0}, 2)

    def test_example(self):
        kernel = kernel_of()
        for width, lines in ((4, [[(0, 0), (0, 1), (1, 0)]]), (2, [[(0, 0), (0, 1)], [(0, 1), (1, 0)]]),
                             (1, [[(0, 0)], [(0, 1)], [(0, 1)], [(1, 0)]])):
            wanted = [((B, crew, (0, ())), ("a", (line,))) for crew, own in enumerate(lines) for line in own]
            self.assertEqual(touches_at(kernel, width, {"n": (1, 0)}, LAYOUT, 2), wanted)

    def test_only_far_deeds_touch(self):
        body = (("take", "x", ("s", (LANE,))), ("meet",), ("add", ("a", ((BLOCK, ("is", 5)),)), "x"))
        self.assertEqual(touches_at(kernel_of(body), 4, {"n": (2, 0)}, LAYOUT, 4), [
            ((B, 0, (2, ())), ("a", ((1, 0),))), (((1, 0), 0, (2, ())), ("a", ((2, 0),)))])

    def test_too_many(self):
        kernel = kernel_of()
        with self.assertRaises(TooMany) as caught:
            touches_at(kernel, 4, {"n": (5001, 0)}, LAYOUT, 2)
        self.assertEqual(caught.exception.most, 20000)
        with self.assertRaises(BadSpan):
            touches_at(kernel, 4, {"n": (5001, 0)}, LAYOUT, 3)

    def test_gone_through(self):
        told = 0
        for seed in range(200):
            kernel, widths, layout, span = made(seed)
            for sizes in samples.all_sizes_up_to(kernel, 2):
                for one in runs.Plain(kernel, sizes).cells:
                    if places.array_at(kernel, one[0])[0] == "far":
                        cell = cell_of(kernel, sizes, one)
                        self.assertEqual(line_of(kernel, layout, span, cell), plain_line(layout, span, cell))
                for width in widths:
                    found = touches_at(kernel, width, sizes, layout, span)
                    self.assertEqual(found, plain_touches(kernel, width, sizes, layout, span))
                    told += len(found)
        self.assertGreater(told, 5000)


if __name__ == "__main__":
    unittest.main()
