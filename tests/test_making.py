"""Points [151] and [152]: kernels made of nests, cuts, copies."""

import random
import unittest

import nestery
import planning
from nestery import EXAMPLE, ZERO, at, bare, deeds_at, nest_of, tiles, turn
from samples import NO_KERNELS, all_sizes_up_to
from lanesmeet.errors import BadNest, BadWidth, NotFit
from lanesmeet.machine import outcome_of
from lanesmeet.making import cut, made
from lanesmeet.maps import image, is_map
from lanesmeet.meaning import instances
from lanesmeet.parted import parting
from lanesmeet.plans import Plan, unfit
from lanesmeet.texts import text_of

LONE = ("none", None, 1)
BLOCKS = (LONE, LONE)
LET = ("let", "x", "f", ())


def rows_of(kernel):
    return text_of(kernel).split("body\n")[1]


def one_loop(low=bare(0), high=tiles("n"), block=None):
    return nest_of("n", (("a", "n"), ("b", "n")), (("long", "t", low, high, block or (
        LET, ("put", at("a", turn("t")), "x"))),))


def split(sizes, width):
    """The sizes of a nest for those of a kernel of this width."""
    return {name: (pair[0] * width + pair[1], 0) for name, pair in sizes.items()}


class Made(unittest.TestCase):
    def test_roles(self):
        def rows(role, width, lanes, blocks=BLOCKS):
            return rows_of(made(one_loop(), Plan(width, lanes, blocks, {0: role}, (), ()))[0])

        def piece(tile, small, first="  ", more=""):
            return (f"{first}if {'(' if more else ''}(order 0: 0 <= {tile}: {small} and order {tile}: ({small} + 1) <= "
                    f"tiles n: rest n){more}:\n{first}  let x = f()\n{first}  put x into a[{tile}: {small}]\n")

        loop = "long t from 0 to tiles n + 1:\n"
        self.assertEqual(rows(("turn",), 2, (1, 1)), loop + "  short ts 2:\n" + piece("turn t", "turn ts", "    "))
        plain = "long t from 0 to tiles n:\n"
        self.assertEqual(rows(("turn",), 1, (1, 1)), plain + piece("turn t", "0"))
        self.assertEqual(rows(("lane", 1), 2, (1, 2)), loop + piece("turn t", "lane 1"))
        self.assertEqual(rows(("lane", 1), 4, (1, 2)),
                         loop + "  short ts 2:\n" + piece("turn t", "(lane 1 + (2 * turn ts))", "    "))
        self.assertEqual(rows(("lane", 0), 2, (1, 1)),
                         loop + "  short ts 2:\n" + piece("turn t", "(lane 0 + (1 * turn ts))", "    "))
        self.assertEqual(rows(("lane", 0), 1, (1, 1)), plain + piece("turn t", "lane 0"))
        size = ("tiles", "n", 1)
        self.assertEqual(rows(("block", 0), 2, (2, 1), (size, LONE)), piece("block 0", "lane 0", ""))
        self.assertEqual(rows(("block", 1), 4, (1, 2), (LONE, size)),
                         "short ts 2:\n" + piece("block 1", "(lane 1 + (2 * turn ts))"))
        self.assertEqual(rows(("block", 1), 2, (2, 2), (LONE, size)),
                         piece("block 1", "lane 1", "", " and small lane 0 == 0)"))
        self.assertEqual(rows(("turn",), 2, (2, 2)), loop + "  short ts 2:\n" + piece(
            "turn t", "turn ts", "    ", " and small lane 0 == 0) and small lane 1 == 0)").replace("if (", "if (("))

    def test_head(self):
        plan = Plan(3, (1, 3), (LONE, ("tiles", "n", 1)), {0: ("block", 1)}, (), ())
        kernel, (deeds, sources) = made(one_loop(), plan)
        self.assertEqual((kernel.width, kernel.lanes, kernel.blocks), (3, (1, 3), (LONE, ("tiles", "n", 1))))
        self.assertEqual((kernel.sizes, kernel.promises, kernel.arrays), ((("n", (0, 1, 2)),), (), one_loop().arrays))
        still = (("none", None, 0), ZERO)
        self.assertEqual((list(deeds), sources), ([2], {}))
        point, blocks, lanes, turns = deeds[2]
        self.assertEqual((point, blocks, lanes), (4, (still, still), (ZERO, ZERO)))
        self.assertEqual(turns, ((("block", 1, 0), ZERO), ("lane", 1)))

    def test_long_loops(self):
        for width in (1, 2, 3, 4):
            for c in range(-9, 10):
                kernel = made(one_loop(bare(c), bare(c + 1)), Plan(width, (1, 1), BLOCKS, {0: ("turn",)}, (), ()))[0]
                self.assertEqual(kernel.body[0][2:4], (bare(c // width), bare(c // width + 1)))
                kernel = made(one_loop(tiles("n", c), tiles("n", c)), Plan(width, (1, 1), BLOCKS, {0: ("turn",)}, (), ()))[0]
                self.assertEqual(kernel.body[0][2:4], (tiles("n", c // width), tiles("n", (c - 2) // width + 2)))
        inner = ("long", "u", turn("t", 3), turn("t", 4), (LET, ("put", at("a", turn("u")), "x")))
        for role, tile in ((("turn",), turn("t")), (("lane", 0), turn("t")), (("block", 0), ("block", 0, 0))):
            plan = Plan(2, (2, 1), (("tiles", "n", 1) if role[0] == "block" else LONE, LONE),
                        {0: role, 1: ("turn",)}, (), ())
            kernel = made(one_loop(block=(inner,)), plan)[0]
            loop = [statement for statement in kernel.statements if statement[:2] == ("long", "u")][0]
            self.assertEqual(loop[2:4], (tile[:2] + (1,), tile[:2] + (3,)))

    def test_spots_and_guards(self):
        guard = ("and", ("not", ("within", (turn("t", 1), ("is", 2)), "n")),
                 ("or", ("small", ("plus", ("is", 2), ("is", 3)), "less", ("rest", "n")), ("order", (tiles("n", -2), ("is", 2)),
                                                                                    (bare(3), ("is", -3)))))
        block = (("if", guard, (("take", "x", ("a", ((tiles("n", 1), ("is", -2)),))), ("put", at("b", bare(0)), "x")),
                  (LET, ("add", ("b", ((turn("t"), ("is", -1)),)), "x"))),)
        kernel = made(one_loop(block=block), Plan(2, (1, 2), BLOCKS, {0: ("turn",)}, (), ()))[0]
        own = "((not within turn t: (turn ts + 3) of n and (small 5 < 0 or order tiles n: rest n <= 0: 0)))"[1:-1]
        head = "(order 0: 0 <= turn t: turn ts and order turn t: (turn ts + 1) <= tiles n: rest n)"
        lane = "small lane 1 == 0"
        self.assertEqual(rows_of(kernel), (
            "long t from 0 to tiles n + 1:\n  short ts 2:\n"
            f"    if (({head} and {own}) and {lane}):\n"
            "      take x from a[tiles n: (rest n + -1)]\n      put x into b[0: 0]\n"
            f"    if (({head} and not {own}) and {lane}):\n"
            "      let x = f()\n      add x to b[turn t: (turn ts + -1)]\n"))
        alone = made(nest_of("n", (("a", "n"),), (LET, ("put", at("a", bare(2)), "x"))), Plan(2, (1, 1), BLOCKS, {}, (), ()))[0]
        self.assertEqual(rows_of(alone), "let x = f()\nput x into a[0: (0 + 2)]\n")

    def test_gaps(self):
        piece = (LET, ("put", at("a", turn("t")), "x"))
        test = ("order", (bare(0), ZERO), (turn("t"), ZERO))
        nest = one_loop(block=piece + (("if", test, piece, ()),))
        seats = ((), (0, None), (3, 0), (3, 1))
        counts = (1, 2, 1, 0)
        gaps = tuple((seat, number) for seat, count in zip(seats, counts) for number in range(count + 1))
        kernel = made(nest, Plan(1, (1, 1), (("tiles", "n", 1), LONE), {0: ("block", 0)}, gaps, ()))[0]
        words = [statement[0] for statement in kernel.statements]
        self.assertEqual(words, ["meet", "meet", "if", "let", "put", "meet", "meet", "if", "let", "put", "meet", "meet",
                                 "meet", "meet"])
        kernel = made(nest, Plan(2, (1, 1), BLOCKS, {0: ("turn",)}, ((seats[1], 0), (seats[1], 2)), ()))[0]
        self.assertEqual([statement[0] for statement in kernel.body[0][4][0][3]], ["meet", "if", "if", "meet"])

    def test_copies_of_one_coordinate(self):
        block = (("take", "x", at("a", turn("i", -1))), ("take", "y", at("a", turn("i"))), ("let", "z", "f", ("x", "y")),
                 ("put", at("b", turn("i")), "z"))
        nest = nest_of("n", (("a", "n"), ("b", "n")), (("long", "i", bare(1), tiles("n"), block),))
        plan = Plan(2, (1, 2), (LONE, ("tiles", "n", 1)), {0: ("block", 1)}, (), (("a", None),))
        kernel, (deeds, sources) = made(nest, plan)
        self.assertEqual(kernel.arrays[2:], (("shared", "as", (3,)),))
        small = "(lane 1 + (2 * turn aa))"
        self.assertEqual(rows_of(kernel), (
            f"short aa 2:\n  if (small {small} < 3 and within block 1: ({small} + -1) of n):\n"
            f"    take w from a[block 1: ({small} + -1)]\n    put w into as[{small}]\nmeet\n"
            "if (order 0: (0 + 1) <= block 1: lane 1 and order block 1: (lane 1 + 1) <= tiles n: rest n):\n"
            "  take x from as[lane 1]\n  take y from as[(lane 1 + 1)]\n  let z = f(x, y)\n  put z into b[block 1: lane 1]\n"))
        self.assertEqual((list(deeds), list(sources)), ([6, 7, 9], [6, 7]))
        later = ("plus", ("lane", 1), ("is", 1))
        self.assertEqual(sources[6], (3, (ZERO, ("rest of", ("lane", 1), 2)), (("over", ("lane", 1), 2),)))
        self.assertEqual(sources[7], (3, (ZERO, ("rest of", later, 2)), (("over", later, 2),)))
        kernel, (_, sources) = made(nest, Plan(2, (2, 1), (LONE, ("tiles", "n", 1)), {0: ("block", 1)}, (), (("a", None),)))
        self.assertEqual(rows_of(kernel).split("\n")[:3], [
            "short aa 2:", "  if (small (lane 0 + (2 * turn aa)) < 3 and within block 1: ((lane 0 + (2 * turn aa)) + -1) of n):",
            "    take w from a[block 1: ((lane 0 + (2 * turn aa)) + -1)]"])
        self.assertEqual(list(sources.values())[0][1][1], ZERO)
        kernel, _ = made(nest, Plan(2, (2, 2), (LONE, ("tiles", "n", 1)), {0: ("block", 1)}, (), (("a", None),)))
        self.assertEqual(rows_of(kernel).split("\n")[1], (
            f"  if ((small {small} < 3 and within block 1: ({small} + -1) of n) and small lane 0 == 0):"))

    def test_copies_in_loops(self):
        block = (("take", "x", at("a", turn("j", 2), turn("i"))), ("put", at("b", turn("j")), "x"))
        nest = nest_of("n", (("a", "nn"), ("b", "n")), (("long", "i", bare(0), tiles("n"), (
            ("long", "j", bare(0), tiles("n"), block),)),))
        plan = Plan(2, (2, 2), (LONE, ("tiles", "n", 1)), {0: ("block", 1), 1: ("lane", 0)},
                    (((0, None), 0), ((0, None), 1), ((1, None), 0)), (("a", 1),))
        kernel, (_, sources) = made(nest, plan)
        head = "(((order 0: 0 <= block 1: lane 1 and order block 1: (lane 1 + 1) <= tiles n: rest n) and "
        self.assertEqual(rows_of(kernel), (
            "meet\nlong j from 0 to tiles n + 1:\n"
            "  if (within turn j: (lane 0 + 2) of n and within block 1: lane 1 of n):\n"
            "    take w from a[turn j: (lane 0 + 2), block 1: lane 1]\n    put w into as[lane 0, lane 1]\n  meet\n  meet\n"
            f"  if {head}order 0: 0 <= turn j: lane 0) and order turn j: (lane 0 + 1) <= tiles n: rest n):\n"
            "    take x from as[lane 0, lane 1]\n    put x into b[turn j: lane 0]\n  meet\nmeet\n"))
        read = list(sources)[0]
        self.assertEqual(sources[read], (4, (("rest of", ("lane", 0), 2), ("rest of", ("lane", 1), 2)),
                                         ((("turn", "j", 0), ZERO),)))
        plan = Plan(4, (2, 2), (LONE, ("tiles", "n", 1)), {0: ("block", 1), 1: ("turn",)}, (), (("a", 1),))
        kernel, (_, sources) = made(nest, plan)
        words = [statement[:2] for statement in kernel.statements if statement[0] in ("short", "long")]
        self.assertEqual(words, [("short", "is"), ("long", "j"), ("short", "aa"), ("short", "ab"), ("short", "js")])
        put, lanes, turns = list(sources.values())[0]
        o = ("plus", ("lane", 1), ("times", ("is", 2), ("turn", "is")))
        self.assertEqual(lanes, (("rest of", ("turn", "js"), 2), ("rest of", o, 2)))
        self.assertEqual(turns, (("turn", "is"), (("turn", "j", 0), ZERO), ("over", ("turn", "js"), 2), ("over", o, 2)))

    def test_several_copies_with_one_meeting(self):
        block = (("take", "x", at("a", turn("i"))), ("take", "y", at("c", turn("i", 1))), ("let", "z", "f", ("x", "y")),
                 ("put", at("b", turn("i")), "z"))
        nest = nest_of("n", (("a", "n"), ("b", "n"), ("c", "n")), (("long", "i", bare(1), tiles("n"), block),))
        kernel, _ = made(nest, Plan(2, (1, 2), BLOCKS, {0: ("turn",)}, (), (("a", 0), ("c", 0))))
        self.assertEqual([array[1] for array in kernel.arrays], ["a", "b", "c", "as", "cs"])
        self.assertEqual([statement[0] for statement in kernel.body[0][4]], ["if", "if", "meet", "short", "meet"])
        plan = Plan(2, (1, 2), (LONE, ("tiles", "n", 1)), {0: ("block", 1)}, (), (("a", None), ("c", None)))
        self.assertEqual([statement[0] for statement in made(nest, plan)[0].body], ["if", "if", "meet", "if"])

    def test_cut(self):
        for thing in NO_KERNELS:
            with self.assertRaises(BadNest):
                cut(thing, None)
        for width in (0, 9, True, None, "2"):
            with self.assertRaises(BadWidth):
                cut(EXAMPLE, width)
        long = nest_of("n", (("a", "n"),), (("long", "abcdefgh", bare(0), tiles("n"), (LET, ("put", at("a", bare(0)), "x"))),))
        self.assertEqual(cut(long, 1).width, 1)
        with self.assertRaises(NotFit) as caught:
            cut(long, 2)
        self.assertEqual(caught.exception.word, "kernel")
        for width in (1, 2, 3):
            plan = Plan(width, (1, 1), BLOCKS, {0: ("turn",), 4: ("turn",)}, (), ())
            self.assertEqual(cut(EXAMPLE, width), made(EXAMPLE, plan)[0])

    def test_results_are_new(self):
        plan = Plan(2, (1, 2), BLOCKS, {0: ("turn",), 4: ("lane", 1)}, (), ())
        first = made(EXAMPLE, plan)[1]
        first[0].clear()
        self.assertEqual(len(made(EXAMPLE, plan)[1][0]), 4)
        other = Plan(2, (1, 2), BLOCKS, {0: ("lane", 1), 4: ("lane", 1)}, (), ())
        self.assertNotEqual(made(EXAMPLE, other)[0], made(EXAMPLE, plan)[0])

    def test_gone_through(self):
        """The cut has the nest's outcome, and the map tells for each deed the one of the cut."""
        many = 0
        for seed in range(60):
            nest = nestery.made_nest(seed)
            r = random.Random(seed)
            plan = planning.fitting_plan(nest, r, (1, 2, 2, 3))
            if plan is None:
                continue
            kernel, chart = made(nest, plan)
            plain = cut(nest, plan.width)
            self.assertIsNone(unfit(nest, plan))
            self.assertTrue(is_map(plain, kernel, chart))
            self.assertIsNone(parting(kernel))
            for sizes in all_sizes_up_to(kernel, 1):
                self.check_cut(nest, plain, plan.width, sizes)
                many += self.check_images(plain, kernel, chart, sizes)
        self.assertGreater(many, 1000)

    def check_cut(self, nest, plain, width, sizes):
        own = instances(plain, sizes, (0, 0), (0, 0))
        deeds = deeds_at(nest, split(sizes, width))
        self.assertEqual(len(own), len(deeds))
        names = dict(zip(deeds, own))
        for deed, told in names.items():
            shorts = [turn_ for loop, turn_ in zip(plain.loops[told[0]], told[3]) if loop[0] == "short"] or [0] * len(deed[3])
            longs = [turn_ for loop, turn_ in zip(plain.loops[told[0]], told[3]) if loop[0] == "long"]
            self.assertEqual(tuple(width * tile + offset for tile, offset in zip(longs, shorts)), deed[3])
        end, met, cells = outcome_of(nest, split(sizes, width), [])

        def told_content(content):
            return None if content[0] is None else names[content[0]], tuple(names[one] for one in content[1])

        found = outcome_of(plain, sizes, [])
        self.assertEqual(found[1], {names[deed]: told_content(met[deed]) for deed in met})
        self.assertEqual(found[2], {(cell[0], tuple((tile // width, tile % width) for tile, _ in cell[1])):
                                    told_content(cells[cell]) for cell in cells})

    def check_images(self, plain, kernel, chart, sizes):
        """That each image is a deed of the cut, and none comes twice."""
        own = instances(plain, sizes, (0, 0), (0, 0))
        counts = [form[2] + (sizes[form[1]][0] if form[0] == "tiles" else 0) for form in kernel.blocks]
        found = []
        for y in range(counts[0]):
            for x in range(counts[1]):
                for i in range(kernel.lanes[0]):
                    for j in range(kernel.lanes[1]):
                        for deed in instances(kernel, sizes, (y, x), (i, j)):
                            if deed[0] in chart[0]:
                                found.append(image(plain, kernel, chart, sizes, deed))
        self.assertEqual(len(set(found)), len(found))
        self.assertLessEqual(set(found), set(own))
        return len(found)


if __name__ == "__main__":
    unittest.main()
