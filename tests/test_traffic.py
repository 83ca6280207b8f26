"""Point [111]: how many lines are moved, needed and touched at all sizes."""

import unittest

import samples
import test_lines
from lanesmeet.errors import BadKernel, BadLayout, BadSpan, BadWidth, TooMany
from lanesmeet.lines import touches_at
from lanesmeet.regions import Region
from lanesmeet.told import worth
from lanesmeet.traffic import again_region, common_region, line_sums, moved_sums, needed_sums

B = (0, 0)
LANE = ("lane", 1)
BLOCK = ("block", 0, 0)
LAYOUT = test_lines.LAYOUT
kernel_of = test_lines.kernel_of


def rests_of(kernel, sizes):
    return tuple(sizes[name][1] for name, _ in kernel.sizes)


def all_worths(kernel, width, layout, span, sizes):
    """Moved, needed and lines at sizes."""
    sums = moved_sums(kernel, width, layout, span), needed_sums(kernel, layout, span), line_sums(kernel, layout, span)
    return [worth(own[rests_of(kernel, sizes)], samples.numbers_at(sizes)) for own in sums]


class Traffic(unittest.TestCase):
    def test_errors_in_order(self):
        for thing in samples.NO_KERNELS:
            for call in (lambda: moved_sums(thing, None, None, None), lambda: again_region(thing, None, None, None),
                         lambda: needed_sums(thing, None, None), lambda: line_sums(thing, None, None),
                         lambda: common_region(thing, None, None)):
                with self.assertRaises(BadKernel):
                    call()
        kernel = kernel_of()
        for width in (None, 0, 3, True, 8):
            for call in (moved_sums, again_region):
                with self.assertRaises(BadWidth):
                    call(kernel, width, None, None)
        for layout in test_lines.BAD_LAYOUTS:
            for call in (lambda: moved_sums(kernel, 2, layout, None), lambda: again_region(kernel, 2, layout, None),
                         lambda: needed_sums(kernel, layout, None), lambda: line_sums(kernel, layout, None),
                         lambda: common_region(kernel, layout, None)):
                with self.assertRaises(BadLayout):
                    call()
        for span in test_lines.BAD_SPANS:
            for call in (lambda: moved_sums(kernel, 2, LAYOUT, span), lambda: again_region(kernel, 2, LAYOUT, span),
                         lambda: needed_sums(kernel, LAYOUT, span), lambda: line_sums(kernel, LAYOUT, span),
                         lambda: common_region(kernel, LAYOUT, span)):
                with self.assertRaises(BadSpan):
                    call()

    def test_too_many(self):
        body = (("take", "x", ("a", ((BLOCK, LANE),))),)
        for name in "klm":
            body = (("short", name, 8, body),)
        many = kernel_of(body, lanes=(2, 8), sizes=(("n", (0, 1, 2)),))
        for call in (lambda: moved_sums(many, 2, LAYOUT, 2), lambda: again_region(many, 2, LAYOUT, 2),
                     lambda: needed_sums(many, LAYOUT, 2), lambda: line_sums(many, LAYOUT, 2), lambda: common_region(many, LAYOUT, 2)):
            with self.assertRaises(TooMany) as caught:
                call()
            self.assertEqual(caught.exception.most, 20000)

    def test_example(self):
        kernel = kernel_of()
        for tiles in (0, 1, 2, 5, 123456789):
            lines = 2 * tiles + 1 if tiles else 0
            sizes = {"n": (tiles, 0)}
            self.assertEqual(all_worths(kernel, 4, LAYOUT, 2, sizes), [3 * tiles, 3 * tiles, lines])
            self.assertEqual(all_worths(kernel, 2, LAYOUT, 2, sizes), [4 * tiles, 3 * tiles, lines])
        self.assertIs(bool(again_region(kernel, 4, LAYOUT, 2)), False)
        again, common = again_region(kernel, 2, LAYOUT, 2), common_region(kernel, LAYOUT, 2)
        self.assertIsInstance(again, Region)
        self.assertEqual((again.sizes, again.promises), (kernel.sizes, kernel.promises))
        self.assertEqual([({"n": (tiles, 1)} in again, {"n": (tiles, 1)} in common) for tiles in range(4)],
                         [(False, False), (True, False), (True, True), (True, True)])

    def test_no_far_deeds(self):
        kernel = kernel_of((("take", "x", ("s", (LANE,))), ("meet",)))
        self.assertEqual(all_worths(kernel, 2, LAYOUT, 4, {"n": (7, 0)}), [0, 0, 0])
        self.assertEqual(list(moved_sums(kernel, 2, LAYOUT, 4)), [(0,), (1,)])
        self.assertIs(bool(again_region(kernel, 2, LAYOUT, 4)) or bool(common_region(kernel, LAYOUT, 4)), False)

    def test_turns_of_one_row(self):
        # In each turn lane 0 touches the line of the turn, lane 1 the next one: each but the first is touched again.
        take = ("take", "x", ("a", ((("turn", "t", 0), ("times", LANE, ("is", 4))),)))
        kernel = kernel_of((("long", "t", ("none", None, 0), ("tiles", "n", 0), (take,)),), lanes=(1, 2), blocks=(samples.ONE,) * 2)
        for tiles in (0, 1, 2, 1000):
            self.assertEqual(all_worths(kernel, 2, LAYOUT, 4, {"n": (tiles, 0)}), [2 * tiles] + [tiles + 1 if tiles else 0] * 2)
        again = again_region(kernel, 2, LAYOUT, 4)
        self.assertEqual([{"n": (tiles, 0)} in again for tiles in range(4)], [False, False, True, True])
        still = kernel_of((("long", "t", ("none", None, 0), ("tiles", "n", 0), (("take", "x", ("a", ((BLOCK, LANE),))),)),))
        self.assertEqual([{"n": (tiles, 0)} in again_region(still, 4, LAYOUT, 4) for tiles in range(4)], [False, False, True, True])

    def test_gone_through(self):
        told = [0, 0, 0]
        for seed in range(250):
            kernel, widths, layout, span = test_lines.made(seed)
            needed, lines = needed_sums(kernel, layout, span), line_sums(kernel, layout, span)
            common = common_region(kernel, layout, span)
            for width in widths:
                moved, again = moved_sums(kernel, width, layout, span), again_region(kernel, width, layout, span)
                for sums in (moved, needed, lines):
                    self.assertEqual(list(sums), sorted(sums))
                for sizes in samples.all_sizes_up_to(kernel, 3):
                    touches = touches_at(kernel, width, sizes, layout, span)
                    pairs = {(row[0], line) for row, line in touches}
                    own = {line for _, line in touches}
                    rests, values = rests_of(kernel, sizes), samples.numbers_at(sizes)
                    found = [worth(sums[rests], values) for sums in (moved, needed, lines)]
                    self.assertEqual(found, [len(touches), len(pairs), len(own)], (seed, width, sizes))
                    self.assertTrue(found[2] <= found[1] <= found[0])
                    self.assertEqual(sizes in again, found[0] > found[1])
                    self.assertEqual(sizes in common, found[1] > found[2])
                    told[0] += found[0] > found[1]
                    told[1] += found[1] > found[2]
                    told[2] += found[0] == found[2] > 0
        self.assertGreater(min(told), 200)

    def test_large_tiles(self):
        for seed in range(60):
            kernel, widths, layout, span = test_lines.made(seed)
            for sizes in list(samples.all_sizes_up_to(kernel, 1))[-1:]:
                large = {name: (10 ** 8 + tiles, rest) for name, (tiles, rest) in sizes.items()}
                if large and not kernel.promises:
                    found = all_worths(kernel, widths[-1], layout, span, large)
                    self.assertTrue(0 <= found[2] <= found[1] <= found[0])
                    self.assertEqual(large in again_region(kernel, widths[-1], layout, span), found[0] > found[1])
                    self.assertEqual(large in common_region(kernel, layout, span), found[1] > found[2])

    def test_results_are_new(self):
        kernel = kernel_of()
        for told in moved_sums(kernel, 4, LAYOUT, 2).values():
            for system, poly in told:
                system.clear()
                poly.clear()
        self.assertEqual(worth(moved_sums(kernel, 4, LAYOUT, 2)[(0,)], {"tiles n": 5}), 15)


if __name__ == "__main__":
    unittest.main()
