"""Point [150]: plans, and why they do not fit."""

import unittest

import nestery
from nestery import EXAMPLE, ZERO, at, bare, nest_of, tiles, turn
from samples import NO_KERNELS
from lanesmeet.errors import (
    BadBlocks, BadCopies, BadGaps, BadLanes, BadNest, BadPlan, BadRoles, BadWidth, NotFit)
from lanesmeet.gaps import fewest_gaps
from lanesmeet.making import made
from lanesmeet.plans import Plan, unfit
from lanesmeet.wrongs import missed, torn, wrong_region

LONE = ("none", None, 1)
BLOCKS = (LONE, LONE)
LET = ("let", "x", "f", ())
TOLD = (2, (1, 2), BLOCKS, {0: ("turn",), 4: ("lane", 1)}, (), ())
NO_PLANS = (None, 5, "plan", TOLD, {}, [])


def plan_with(**change):
    names = ("width", "lanes", "blocks", "roles", "gaps", "copies")
    return Plan(**{**dict(zip(names, TOLD)), **change})


def loops(*names, inner=(LET, ("put", at("a", bare(0)), "x"))):
    """Loops one within the other."""
    block = tuple(inner)
    for name in reversed(names):
        block = (("long", name, bare(0), tiles("n"), block),)
    return nest_of("n", (("a", "n"),), block)


class Plans(unittest.TestCase):
    def test_errors_in_order(self):
        with self.assertRaises(BadWidth):
            Plan(None, None, None, None, None, None)
        for width in (0, 9, True, "2", None, (2,), -1):
            with self.assertRaises(BadWidth):
                plan_with(width=width)
        with self.assertRaises(BadLanes):
            Plan(2, None, None, None, None, None)
        for lanes in (5, (1,), [1, 2], (1, 2, 1), (0, 1), (9, 1), (True, 2), (5, 4), ("1", 2)):
            with self.assertRaises(BadLanes):
                plan_with(lanes=lanes)
        with self.assertRaises(BadBlocks):
            Plan(2, (1, 2), None, None, None, None)
        for form in (("none", None, 0), ("none", None, 10), ("tiles", "N", 0), ("tiles", "n", True), ("turn", "i", 0),
                     ("none", "n", 1), ["none", None, 1], ("block", 0, 0), None):
            for blocks in ((form, LONE), (LONE, form), [LONE, LONE], (LONE,)):
                with self.assertRaises(BadBlocks):
                    plan_with(blocks=blocks)
        with self.assertRaises(BadRoles):
            Plan(2, (1, 2), BLOCKS, None, None, None)
        for roles in (5, [], (), {True: ("turn",)}, {"0": ("turn",)}, {0: "turn"}, {0: ["turn"]}, {0: ("turn", 0)}, {0: ()},
                      {0: ("block",)}, {0: ("lane", 2)}, {0: ("lane", True)}, {0: ("lane", -1)}, {0: ("tile", 0)}, {0: None},
                      {0: ("block", 0, 0)}, {0: (0, "block")}, {(0,): ("turn",)}):
            with self.assertRaises(BadRoles, msg=roles):
                plan_with(roles=roles)
        with self.assertRaises(BadGaps):
            Plan(2, (1, 2), BLOCKS, {}, None, None)
        for gaps in (5, [], {}, ((),), (((), 0, 0),), (([], 0),), (((), True),), (((), None),), (((0,), 0),),
                     (((0, 2), 0),), (((0, -1), 0),), (((0, True), 0),), (((True, None), 0),), ((("0", None), 0),),
                     (((), 1), ((), 0)), (((), 0), ((), 0)), (((0, 0), 0), ((0, None), 0)), (((0, None), 0), ((), 0)),
                     (((0, 1), 0), ((0, 0), 5)), ([(), 0],), (((-1, None), 0),)):
            with self.assertRaises(BadGaps, msg=gaps):
                plan_with(gaps=gaps)
        with self.assertRaises(BadCopies):
            Plan(2, (1, 2), BLOCKS, {}, (), None)
        for copies in (5, [], {}, ("a",), (("a",),), (("a", None, 0),), (["a", None],), (("A", None),), ((1, None),),
                       (("a", True),), (("a", -1),), (("a", "0"),), (("b", None), ("a", None)), (("a", None), ("a", 0)),
                       (("a", None), ("a", None)), (("", None),), (("a", ()),)):
            with self.assertRaises(BadCopies, msg=copies):
                plan_with(copies=copies)

    def test_attributes_and_equality(self):
        roles = {4: ("lane", 1), 0: ("turn",)}
        gaps = (((), 1), ((0, None), 0), ((0, 0), 3), ((0, 1), -2))
        plan = Plan(2, (1, 2), BLOCKS, roles, gaps, (("a", None), ("b", 3)))
        self.assertEqual((plan.width, plan.lanes, plan.blocks, plan.gaps), (2, (1, 2), BLOCKS, gaps))
        self.assertEqual((plan.roles, list(plan.roles), plan.copies), (roles, [0, 4], (("a", None), ("b", 3))))
        self.assertTrue(plan == Plan(2, (1, 2), BLOCKS, {0: ("turn",), 4: ("lane", 1)}, gaps, (("a", None), ("b", 3))))
        roles[0] = ("lane", 0)
        self.assertEqual(plan.roles[0], ("turn",))
        for change in ({"width": 4}, {"lanes": (2, 1)}, {"blocks": (LONE, ("tiles", "n", 0))}, {"roles": {0: ("turn",)}},
                       {"gaps": (((), 0),)}, {"copies": (("a", None),)}):
            self.assertFalse(plan_with() == plan_with(**change))
            self.assertTrue(plan_with() != plan_with(**change))
        for thing in NO_PLANS:
            self.assertIs(plan_with() == thing, False)

    def test_errors_of_unfit_in_order(self):
        for one in (unfit, made, missed, torn, wrong_region, fewest_gaps):
            for thing in NO_KERNELS:
                with self.assertRaises(BadNest):
                    one(thing, None)
            for thing in NO_PLANS:
                with self.assertRaises(BadPlan):
                    one(EXAMPLE, thing)
        for one in (made, missed, torn, wrong_region, fewest_gaps):
            with self.assertRaises(NotFit) as caught:
                one(EXAMPLE, plan_with(roles={}))
            self.assertEqual(caught.exception.word, "roles")

    def test_roles_lanes_ways(self):
        self.assertIsNone(unfit(EXAMPLE, plan_with()))
        for roles in ({}, {0: ("turn",)}, {0: ("turn",), 4: ("turn",), 1: ("turn",)}, {0: ("turn",), 3: ("turn",)}):
            self.assertEqual(unfit(EXAMPLE, plan_with(roles=roles, lanes=(1, 3))), "roles")
        for width, lanes in ((2, (1, 3)), (2, (4, 1)), (3, (2, 1)), (1, (1, 2)), (6, (1, 4))):
            self.assertEqual(unfit(EXAMPLE, plan_with(width=width, lanes=lanes)), "lanes")
        self.assertIsNone(unfit(EXAMPLE, plan_with(width=6, lanes=(2, 3))))
        nested = loops("i", "j")
        for one, other, word in ((("lane", 1), ("lane", 1), "ways"), (("lane", 1), ("block", 1), "ways"),
                                 (("block", 0), ("lane", 0), "ways"), (("block", 0), ("block", 0), "ways"),
                                 (("lane", 0), ("lane", 1), None), (("block", 0), ("lane", 1), None),
                                 (("turn",), ("turn",), None), (("turn",), ("lane", 1), None)):
            plan = plan_with(roles={0: one, 1: other}, blocks=(("tiles", "m", 0), LONE))
            self.assertEqual(unfit(nested, plan), word if word else "blocks")
        self.assertEqual(unfit(nested, plan_with(roles={0: ("lane", 1), 1: ("lane", 1)}, lanes=(1, 3))), "lanes")
        empty = loops("i", "j", inner=())
        self.assertIsNone(unfit(empty, plan_with(roles={0: ("lane", 1), 1: ("lane", 1)})))
        self.assertIsNone(unfit(EXAMPLE, plan_with(roles={0: ("lane", 1), 4: ("lane", 1)})))

    def test_blocks(self):
        size = ("tiles", "n", 0)
        for blocks, roles, word in (
                ((LONE, ("tiles", "m", 0)), {0: ("block", 1), 4: ("block", 1)}, "blocks"),
                ((("tiles", "m", 0), LONE), {0: ("block", 0), 4: ("block", 0)}, "blocks"),
                ((LONE, size), {0: ("block", 1), 4: ("block", 1)}, None),
                ((LONE, size), {0: ("block", 1), 4: ("lane", 1)}, "blocks"),
                ((size, LONE), {0: ("block", 1), 4: ("block", 1)}, "blocks"),
                ((LONE, ("none", None, 2)), {0: ("block", 1), 4: ("turn",)}, "blocks"),
                ((LONE, ("none", None, 2)), {0: ("block", 1), 4: ("block", 1)}, None),
                ((LONE, LONE), {0: ("block", 1), 4: ("turn",)}, None)):
            self.assertEqual(unfit(EXAMPLE, plan_with(blocks=blocks, roles=roles)), word, (blocks, roles))
        self.assertEqual(unfit(nest_of("n", (("a", "n"),), ()), plan_with(roles={}, blocks=(size, ("tiles", "m", 0)))), "blocks")
        self.assertIsNone(unfit(nest_of("n", (("a", "n"),), ()), plan_with(roles={}, blocks=(size, size))))

    def test_gaps(self):
        test = ("order", (bare(0), ZERO), (turn("i"), ZERO))
        piece = (LET, ("put", at("a", turn("i")), "x"))
        nest = nest_of("n", (("a", "n"),), (("long", "i", bare(0), tiles("n"), piece + (("if", test, piece, piece * 2),)),))
        self.assertEqual(nest.statements[3][0], "if")
        counts = {(): 1, (0, None): 2, (3, 0): 1, (3, 1): 2}
        for seat in ((), (0, None), (0, 0), (0, 1), (3, 0), (3, 1), (3, None), (1, None), (9, None)):
            for number in range(-1, 4):
                plan = plan_with(roles={0: ("turn",)}, gaps=((seat, number),))
                fits = seat in counts and 0 <= number <= counts[seat]
                self.assertEqual(unfit(nest, plan), None if fits else "gaps", (seat, number))

    def test_copies(self):
        take = ("take", "x", at("a", turn("i", 1)))
        put = ("put", at("b", turn("i")), "x")

        def word(body, copies, roles, arrays=(("a", "n"), ("b", "n")), **change):
            return unfit(nest_of("n", arrays, body), plan_with(roles=roles, copies=copies, **change))

        loop = (("long", "i", bare(0), tiles("n"), (take, put)),)
        block = {"blocks": (LONE, ("tiles", "n", 0))}
        self.assertIsNone(word(loop, (("a", None),), {0: ("block", 1)}, **block))
        self.assertIsNone(word(loop, (("a", 0),), {0: ("lane", 1)}))
        self.assertIsNone(word(loop, (("a", 0),), {0: ("turn",)}))
        for copies, roles in (((("a", 0),), {0: ("block", 1)}), ((("a", None),), {0: ("lane", 1)}),
                              ((("a", None),), {0: ("turn",)}), ((("b", None),), {0: ("block", 1)}),
                              ((("c", None),), {0: ("block", 1)}), ((("a", 1),), {0: ("turn",)}),
                              ((("a", 9),), {0: ("turn",)}), ((("a", None), ("b", None)), {0: ("block", 1)})):
            self.assertEqual(word(loop, copies, roles), "copies", (copies, roles))
        untaken = (("long", "i", bare(0), tiles("n"), (LET, put)),)
        self.assertEqual(word(untaken, (("a", 0),), {0: ("turn",)}), "copies")
        added = (("long", "i", bare(0), tiles("n"), (take, put, take, ("add", at("a", turn("i")), "x"))),)
        self.assertEqual(word(added, (("a", 0),), {0: ("turn",)}), "copies")
        twice = loop + (("long", "j", bare(0), tiles("n"), (("take", "x", at("a", turn("j"))),
                                                           ("put", at("b", turn("j")), "x"))),)
        self.assertEqual(word(twice, (("a", 0),), {0: ("turn",), 3: ("turn",)}), "copies")
        self.assertIsNone(word(twice, (("a", None),), {0: ("block", 1), 3: ("block", 1)}, **block))
        for roles in ({0: ("block", 1), 3: ("turn",)}, {0: ("block", 1), 3: ("block", 0)}):
            self.assertEqual(word(twice, (("a", None),), roles), "copies")
        for form in (bare(0), tiles("n", -1)):
            other = (("long", "i", bare(0), tiles("n"), (("take", "x", at("a", form)), put)),)
            self.assertEqual(word(other, (("a", 0),), {0: ("turn",)}), "copies")
        far = ("take", "x", at("a", turn("i"), turn("j")))
        nested = (("long", "i", bare(0), tiles("n"), (("long", "j", bare(0), tiles("n"), (far, put)),)),)
        arrays = (("a", "nn"), ("b", "n"))
        for copies, roles, wanted in (((("a", None),), {0: ("block", 0), 1: ("block", 1)}, None),
                                      ((("a", 1),), {0: ("block", 0), 1: ("turn",)}, None),
                                      ((("a", 0),), {0: ("turn",), 1: ("block", 1)}, None),
                                      ((("a", 0),), {0: ("turn",), 1: ("turn",)}, "copies"),
                                      ((("a", 1),), {0: ("turn",), 1: ("turn",)}, "copies"),
                                      ((("a", 1),), {0: ("block", 0), 1: ("block", 1)}, "copies"),
                                      ((("a", 0),), {0: ("lane", 0), 1: ("lane", 1)}, "copies")):
            self.assertEqual(word(nested, copies, roles, arrays), wanted, (copies, roles))

    def test_copies_within_loops(self):
        def nest_with(*inner):
            return nest_of("n", (("a", "n"), ("b", "nn")), (("long", "i", bare(0), tiles("n"), inner),))

        def piece(*forms):
            takes = tuple(("take", "xyz"[at_], at("a", form)) for at_, form in enumerate(forms))
            return takes + (("put", at("b", turn("i"), bare(0)), "x"),)

        def loop(*block):
            return ("long", "j", bare(0), tiles("n"), block)

        blocks = {"blocks": (LONE, ("tiles", "n", 0))}
        within = nest_with(loop(*piece(turn("i"))))
        self.assertIsNone(unfit(within, plan_with(roles={0: ("block", 1), 1: ("turn",)}, copies=(("a", 1),), **blocks)))
        around = nest_with(*piece(turn("i")), loop(*piece(turn("i"))))
        roles = {0: ("block", 1), 3: ("turn",)}
        self.assertEqual(unfit(around, plan_with(roles=roles, copies=(("a", 3),), **blocks)), "copies")
        self.assertIsNone(unfit(around, plan_with(roles=roles, copies=(("a", None),), **blocks)))
        mixed = nest_with(loop(*piece(turn("i"), turn("j"))))
        for point in (0, 1):
            for roles in ({0: ("turn",), 1: ("turn",)}, {0: ("turn",), 1: ("lane", 1)}):
                self.assertEqual(unfit(mixed, plan_with(roles=roles, copies=(("a", point),))), "copies")
        self.assertEqual(unfit(mixed, plan_with(roles={0: ("block", 1), 1: ("turn",)}, copies=(("a", 1),), **blocks)), "copies")

    def test_kernel(self):
        for name in ("abcdefgh",):
            nest = nest_of("n", (("a", "n"),), (("long", name, bare(0), tiles("n"), (LET, ("put", at("a", turn(name)), "x"))),))
            self.assertEqual(unfit(nest, plan_with(roles={0: ("turn",)})), "kernel")
            self.assertIsNone(unfit(nest, plan_with(width=1, lanes=(1, 1), roles={0: ("turn",)})))
            # The cut has a short loop, also where what is made has none.
            self.assertEqual(unfit(nest, plan_with(roles={0: ("lane", 1)})), "kernel")
        clash = nest_of("n", (("a", "n"),), (("long", "i", bare(0), tiles("n"), (("long", "is", bare(0), tiles("n"), (
            LET, ("put", at("a", turn("i")), "x"))),)),))
        self.assertEqual(unfit(clash, plan_with(roles={0: ("turn",), 1: ("turn",)})), "kernel")
        take = ("take", "x", at("a", turn("i")))
        put = ("put", at("b", turn("i")), "x")
        loop = (("long", "i", bare(0), tiles("n"), (take, put)),)
        own = nest_of("n", (("a", "n"), ("b", "n"), ("as", "n")), loop)
        self.assertEqual(unfit(own, plan_with(roles={0: ("turn",)}, copies=(("a", 0),))), "kernel")
        wide = nest_of("n", (("a", "n"), ("b", "n")), (("long", "i", bare(0), tiles("n"), (
            ("take", "y", at("a", turn("i", -9))), take, put)),))
        self.assertIsNone(unfit(wide, plan_with(roles={0: ("turn",)}, copies=(("a", 0),))))
        self.assertEqual(unfit(wide, plan_with(width=8, lanes=(1, 2), roles={0: ("turn",)}, copies=(("a", 0),))), "kernel")
        self.assertEqual(unfit(wide, plan_with(lanes=(1, 1), roles={0: ("turn",)}, copies=(("a", 0),))), "kernel")
        many = nest_of("n", (("a", "n"),), (LET, ("put", at("a", bare(0)), "x")) * 26)
        self.assertIsNone(unfit(many, plan_with(roles={}, lanes=(1, 2))))
        more = nest_of("n", (("a", "n"),), (LET, ("put", at("a", bare(0)), "x")) * 27)
        self.assertEqual(unfit(more, plan_with(roles={}, lanes=(1, 2))), "kernel")
        self.assertIsNone(unfit(more, plan_with(roles={}, lanes=(1, 1))))
        self.assertEqual(unfit(many, plan_with(roles={}, gaps=tuple(((), number) for number in range(3)))), "kernel")


if __name__ == "__main__":
    unittest.main()
