"""Points [162] and [163]: stories, what is told, and the judge with its sayings and papers."""

import random
import unittest

import judging
import pairing
import planning
from nestery import at, bare, nest_of, tiles, turn
from pairing import CHART, COPIED, LONE, NOUGHT, STILL, TAIL, copied_kernel, laned_kernel, plain_kernel
from samples import NO_KERNELS, NO_SIZES_AT, all_sizes_up_to, loop_kernel, shift_kernel
from lanesmeet.errors import (
    BadFellows, BadKernel, BadMap, BadOrder, BadSizesAt, NotOne, TooMany)
from lanesmeet.judge import are_judge_papers, judge, judge_papers, judge_sayings
from lanesmeet.kernels import Kernel
from lanesmeet.machine import Run, outcome_of
from lanesmeet.maps import image
from lanesmeet.meaning import cell_of
from lanesmeet.needed import never_races
from lanesmeet.making import cut, made
from lanesmeet.plans import Plan
from lanesmeet.papers import is_tree
from lanesmeet.sayings import free_names, holds, is_saying
from lanesmeet.stories import story, told

ONE = plain_kernel()
OTHER = laned_kernel()
COPY = copied_kernel()
AT = {"n": (2, 0)}
HERE = (("block", 0, 0), ("lane", 1))
MINE = ("minus", ("is", 1), ("lane", 1))


def copy_with(body):
    return Kernel(2, (1, 2), COPY.blocks, COPY.sizes, (), COPY.arrays, tuple(body))


class Stories(unittest.TestCase):
    def test_story(self):
        for thing in NO_KERNELS:
            with self.assertRaises(BadKernel):
                story(thing, None, None)
        for thing in NO_SIZES_AT:
            if thing != {"n": (9, 0)}:
                with self.assertRaises(BadSizesAt):
                    story(OTHER, thing, None)
        for order, where in ((None, None), (5, None), ([((0, 0), (0, 0)), None], 1), ([((5, 0), (0, 0))], 0)):
            with self.assertRaises(BadOrder) as caught:
                story(OTHER, AT, order)
            self.assertEqual(caught.exception.at, where)
        for kernel in (ONE, OTHER, COPY, shift_kernel()):
            for sizes in all_sizes_up_to(kernel, 2):
                end, met, left = story(kernel, sizes, ())
                done, seen, cells = outcome_of(kernel, sizes, [])
                self.assertEqual((end, left), (done, cells))
                self.assertEqual(met, {deed: (cell_of(kernel, sizes, deed), seen[deed]) for deed in seen})
                self.assertEqual((list(met), list(left)), (sorted(met), sorted(left)))
        half = Kernel(2, (1, 2), (LONE, LONE), (), (), (("shared", "s", (1,)),), (
            ("if", ("small", ("lane", 1), "same", NOUGHT), (("meet",),), ()),))
        self.assertEqual(story(half, {}, []), (("still", [((0, 0), (0, 0))]), {}, {}))

    def test_too_many(self):
        loop = Kernel(1, (1, 1), (LONE, LONE), (("n", (0,)),), (), (("far", "a", ("n",)),), (
            ("long", "i", ("none", None, 0), ("tiles", "n", 0), (("take", "x", ("a", (STILL,))),)),))
        with self.assertRaises(TooMany):
            story(loop, {"n": (20001, 0)}, [])
        with self.assertRaises(TooMany):
            told(loop, loop, ({}, {}), {"n": (20001, 0)}, [])

    def test_errors_of_told_in_order(self):
        for thing in NO_KERNELS + (COPY,):
            with self.assertRaises(BadFellows):
                told(thing, OTHER, None, None, None)
        with self.assertRaises(BadMap):
            told(ONE, OTHER, None, None, None)
        for thing in NO_SIZES_AT:
            if thing != {"n": (9, 0)}:
                with self.assertRaises(BadSizesAt):
                    told(ONE, OTHER, CHART, thing, None)
        for order, where in ((None, None), ([((0, 0), (0, 0)), None], 1), ([((5, 0), (0, 0))], 0)):
            with self.assertRaises(BadOrder) as caught:
                told(ONE, OTHER, CHART, AT, order)
            self.assertEqual(caught.exception.at, where)

    def test_told_by_hand(self):
        wanted = story(ONE, AT, [])
        r = random.Random(5)
        for kernel, chart in ((OTHER, CHART), (COPY, COPIED)):
            for order in [[]] + [planning.drawn_order(kernel, AT, r) for _ in range(5)]:
                found = told(ONE, kernel, chart, AT, order)
                self.assertEqual(found, wanted)
                self.assertEqual((list(found[1]), list(found[2])), (sorted(wanted[1]), sorted(wanted[2])))
        puts = ({2: CHART[0][2]}, {})
        self.assertEqual(told(ONE, OTHER, puts, AT, [])[1], {deed: wanted[1][deed] for deed in wanted[1] if deed[0] == 4})

    def test_told_is_none(self):
        away = (STILL, STILL), (NOUGHT, NOUGHT), ((("block", 0, 1), NOUGHT), ("lane", 1))
        self.assertIsNone(told(ONE, OTHER, ({**CHART[0], 0: (2,) + away}, {}), AT, []))
        same = (STILL, STILL), (NOUGHT, NOUGHT), ((("block", 0, 0), NOUGHT), NOUGHT)
        self.assertIsNone(told(ONE, OTHER, ({**CHART[0], 0: (2,) + same}, {}), AT, []))
        for lane in (("lane", 1), ("is", 2)):
            self.assertIsNone(told(ONE, COPY, (COPIED[0], {3: (1, (NOUGHT, lane), ())}), AT, []))
        late = copy_with(COPY.body[:2] + (("if", ("small", ("lane", 1), "same", NOUGHT), (("meet",),), ()),) + COPY.body[3:])
        chart = ({4: COPIED[0][3], 6: COPIED[0][5]}, {4: COPIED[1][3]})
        self.assertIsNone(told(ONE, late, chart, AT, []))
        raced = copied_kernel(False)
        chart = ({2: COPIED[0][3], 4: COPIED[0][5]}, {2: COPIED[1][3]})
        self.assertIsNone(told(ONE, raced, chart, AT, []))
        each = [((block, 0), (0, lane)) for block in (0, 1) for lane in (0, 1)]
        self.assertEqual(told(ONE, raced, chart, AT, each + each), story(ONE, AT, []))

    def test_adds_and_cells_that_one_does_not_have(self):
        body = (("let", "x", "f", ()), ("add", ("a", (STILL,)), "x"))
        one = Kernel(1, (1, 1), (LONE, LONE), (("n", (0,)),), (), (("far", "a", ("n",)),), (
            ("long", "i", ("none", None, 0), ("tiles", "n", 0), body + (("let", "y", "f", ()), ("add", ("a", (STILL,)), "y"))),
            ("take", "z", ("a", (STILL,)))))
        other = Kernel(1, (1, 1), (LONE, LONE), one.sizes, (), one.arrays + (("far", "b", ("n",)),), (
            ("long", "i", ("none", None, 0), ("tiles", "n", 0), body),
            ("long", "i", ("none", None, 0), ("tiles", "n", 0), body), ("take", "z", ("a", (STILL,)))))
        back = (("tiles", "n", -1), NOUGHT), (("turn", "i", 0), NOUGHT)
        tail = (STILL, STILL), (NOUGHT, NOUGHT)
        chart = ({2: (4,) + tail + ((back[1],),), 5: (2,) + tail + ((back[1],),), 6: (5,) + tail + ((),)}, {})
        sizes = {"n": (3, 0)}
        self.assertEqual(told(one, other, chart, sizes, []), story(one, sizes, []))
        self.assertEqual(judge(one, other, chart), ("alike",))
        more = Kernel(1, (1, 1), (LONE, LONE), one.sizes, (), other.arrays, other.body[:1] + (
            ("long", "i", ("none", None, 0), ("tiles", "n", 0), (body[0], ("add", ("b", (STILL,)), "x"))),) + other.body[2:])
        self.assertEqual(told(one, more, chart, sizes, [])[2].keys(), {("a", ((0, 0),)): 1}.keys())
        self.assertEqual(judge(one, more, chart)[0], "strange")


class Judge(unittest.TestCase):
    def test_errors_in_order(self):
        calls = (judge, judge_sayings, judge_papers, lambda one, other, chart: are_judge_papers(one, other, chart, None))
        raced = copied_kernel(False)
        chart = ({2: COPIED[0][3], 4: COPIED[0][5]}, {2: COPIED[1][3]})
        half = copy_with(COPY.body[:2] + (("if", ("small", ("lane", 1), "same", NOUGHT), (("meet",),), ()),) + COPY.body[3:])
        parted = ({4: COPIED[0][3], 6: COPIED[0][5]}, {4: COPIED[1][3]})
        for one in calls:
            for thing in NO_KERNELS + (COPY,):
                with self.assertRaises(BadFellows):
                    one(thing, OTHER, None)
            with self.assertRaises(BadFellows):
                one(ONE, None, None)
            with self.assertRaises(BadMap):
                one(ONE, raced, None)
            with self.assertRaises(NotOne):
                one(ONE, raced, chart)
            with self.assertRaises(NotOne):
                one(ONE, half, parted)
        race = Kernel(2, (1, 2), (LONE, LONE), ONE.sizes, (), ONE.arrays, (
            ("let", "x", "f", ()), ("put", ("a", (STILL,)), "x")))
        for one in calls:
            with self.assertRaises(NotOne):
                one(race, ONE, ({4: (1, (STILL, STILL), (NOUGHT, NOUGHT), ())}, {}))

    def test_example(self):
        self.assertEqual(judge(ONE, OTHER, CHART), ("alike",))
        self.assertEqual(judge(ONE, laned_kernel(MINE), CHART), ("strange", {"n": (1, 0)}, (0, (0, 0), (0, 0), ())))
        self.assertEqual(judge(ONE, laned_kernel(blocks=("tiles", "n", -1)), CHART),
                         ("undone", {"n": (1, 0)}, (2, (0, 0), (0, 0), (0, 0))))

    def test_unfetched(self):
        self.assertEqual(judge(ONE, COPY, COPIED), ("alike",))
        wanted = ("unfetched", {"n": (1, 0)}, (3, (0, 0), (0, 0), ()))
        for lane in (("lane", 1), ("plus", ("lane", 1), ("is", 2))):
            self.assertEqual(judge(ONE, COPY, (COPIED[0], {3: (1, (NOUGHT, lane), ())})), wanted)
        # The put that is told is behind the read.
        late = copy_with((("take", "v", ("a", (HERE,))), ("put", ("s", (MINE,)), "v"), ("meet",)) + COPY.body[3:]
                         + (("meet",),) + COPY.body[:2])
        chart = ({3: COPIED[0][3], 5: COPIED[0][5]}, {3: (8, (NOUGHT, MINE), ())})
        self.assertEqual(judge(ONE, late, chart), ("unfetched", {"n": (1, 0)}, (3, (0, 0), (0, 0), ())))
        # Another put stands between.
        twice = copy_with(COPY.body[:3] + (("take", "v", ("b", (HERE,))), ("put", ("s", (("lane", 1),)), "v"), ("meet",))
                          + COPY.body[3:])
        chart = ({6: COPIED[0][3], 8: COPIED[0][5]}, {6: COPIED[1][3]})
        self.assertEqual(judge(ONE, twice, chart), ("unfetched", {"n": (1, 0)}, (6, (0, 0), (0, 0), ())))

    def test_double_mixed_turned(self):
        let = ("let", "y", "f", ("x",))
        take = ("take", "x", ("a", (HERE,)))
        put = ("put", ("b", (HERE,)), "y")
        lanes = Kernel(2, (1, 2), OTHER.blocks, OTHER.sizes, (), OTHER.arrays, (take, let, put))
        own = (((("block", 0, 0), NOUGHT), STILL), (NOUGHT, ("lane", 1)), ())
        same = ({0: (0,) + own, 2: (2,) + own}, {})
        twice = Kernel(2, (1, 2), OTHER.blocks, OTHER.sizes, (), OTHER.arrays, (take, let, put, take))
        chart = ({0: (0,) + own, 2: (2,) + own, 3: (0,) + own}, {})
        self.assertEqual(judge(lanes, twice, chart),
                         ("double", {"n": (1, 0)}, (0, (0, 0), (0, 0), ()), (3, (0, 0), (0, 0), ())))
        for own_let, own_put in ((("let", "y", "g", ("x",)), put), (("let", "y", "f", ("x", "x")), put),
                                 (("let", "y", "f", ()), put), (let, ("put", ("b", (HERE,)), "x"))):
            mixed = Kernel(2, (1, 2), OTHER.blocks, OTHER.sizes, (), OTHER.arrays, (take, own_let, own_put))
            self.assertEqual(judge(lanes, mixed, same), ("mixed", {"n": (1, 0)}, (2, (0, 0), (0, 0), ())))
        self.assertEqual(judge(lanes, lanes, ({2: (2,) + own}, {}))[0], "undone")
        back = Kernel(2, (1, 2), OTHER.blocks, OTHER.sizes, (), OTHER.arrays, (
            ("let", "z", "g", ()), ("put", ("a", (HERE,)), "z"), take, let, put))
        forth = Kernel(2, (1, 2), OTHER.blocks, OTHER.sizes, (), OTHER.arrays, (
            take, let, put, ("let", "z", "g", ()), ("put", ("a", (HERE,)), "z")))
        chart = ({1: (4,) + own, 2: (0,) + own, 4: (2,) + own}, {})
        self.assertEqual(judge(forth, back, chart),
                         ("turned", {"n": (1, 0)}, (2, (0, 0), (0, 0), ()), (1, (0, 0), (0, 0), ())))

    def test_images_with_rests_and_tiles(self):
        spot = (("block", 0, -1), ("plus", ("rest", "n"), ("is", 2)))
        tail = (STILL, STILL), (NOUGHT, ("minus", ("is", 3), ("is", 3))), (spot, ("plus", ("lane", 1), ("rest", "n")))
        chart = ({0: (2,) + tail, 2: (4,) + tail}, {})
        self.assertEqual(judge(ONE, OTHER, chart), ("alike",))
        self.assertTrue(are_judge_papers(ONE, OTHER, chart, judge_papers(ONE, OTHER, chart)))
        less = (("block", 0, -1), ("plus", ("rest", "n"), ("is", 1)))
        chart = ({0: (2,) + tail[:2] + ((less, tail[2][1]),), 2: (4,) + tail}, {})
        self.assertEqual(judge(ONE, OTHER, chart), ("strange", {"n": (1, 0)}, (0, (0, 0), (0, 0), ())))

    def test_adds_for_puts_are_strange(self):
        add = Kernel(2, (1, 2), OTHER.blocks, OTHER.sizes, (), OTHER.arrays, OTHER.body[:2] + (("add",) + OTHER.body[2][1:],))
        self.assertEqual(judge(ONE, add, CHART), ("strange", {"n": (1, 0)}, (2, (0, 0), (0, 0), ())))
        own = (((("block", 0, 0), NOUGHT), STILL), (NOUGHT, ("lane", 1)), ())
        same = ({0: (0,) + own, 2: (2,) + own}, {})
        self.assertEqual(judge(add, add, same), ("alike",))
        self.assertEqual(judge(add, OTHER, same)[0], "strange")

    def test_the_order_of_the_maps_keys_has_no_meaning(self):
        backwards = ({5: COPIED[0][5], 3: COPIED[0][3]}, COPIED[1])
        self.assertEqual(judge_sayings(ONE, COPY, backwards), judge_sayings(ONE, COPY, COPIED))
        self.assertEqual(judge_papers(ONE, COPY, backwards), judge_papers(ONE, COPY, COPIED))
        nest = nest_of("n", (("a", "n"), ("b", "n")), (("long", "i", bare(1), tiles("n"), (
            ("take", "x", at("a", turn("i", -1))), ("take", "y", at("a", turn("i"))), ("let", "z", "f", ("x", "y")),
            ("put", at("b", turn("i")), "z"))),))
        kernel, (deeds, sources) = made(nest, Plan(2, (1, 2), (LONE, ("tiles", "n", 1)), {0: ("block", 1)}, (), (("a", None),)))
        backwards = ({key: deeds[key] for key in reversed(deeds)}, {key: sources[key] for key in reversed(sources)})
        found = judge_sayings(cut(nest, 2), kernel, backwards)
        self.assertEqual(found, judge_sayings(cut(nest, 2), kernel, (deeds, sources)))
        self.assertEqual([key[0] for key, _ in found["unfetched"]], sorted(key[0] for key, _ in found["unfetched"]))

    def test_undone_by_one_lane(self):
        only = Kernel(2, (1, 2), OTHER.blocks, OTHER.sizes, (), OTHER.arrays, (
            ("if", ("small", ("lane", 1), "same", NOUGHT), OTHER.body, ()),))
        chart = ({1: CHART[0][0], 3: CHART[0][2]}, {})
        self.assertEqual(judge(ONE, only, chart), ("undone", {"n": (1, 0)}, (2, (0, 0), (0, 0), (0, 1))))

    def test_double_of_one_case(self):
        there = (("none", None, 0), ("turn", "o"))
        one = Kernel(2, (1, 1), (LONE, LONE), ONE.sizes, (), ONE.arrays, (("short", "o", 2, (("take", "x", ("a", (there,))),)),))
        take = ("take", "x", ("a", ((("none", None, 0), ("lane", 1)),)))
        tail = (STILL, STILL), (NOUGHT, NOUGHT), (("lane", 1),)
        blocks = Kernel(2, (1, 2), OTHER.blocks, ONE.sizes, (), ONE.arrays, (take,))
        self.assertEqual(judge(one, blocks, ({0: (1,) + tail}, {})),
                         ("double", {"n": (2, 0)}, (0, (0, 0), (0, 0), ()), (0, (1, 0), (0, 0), ())))
        loop = Kernel(2, (1, 2), (LONE, LONE), ONE.sizes, (), ONE.arrays, (
            ("long", "t", ("none", None, 0), ("tiles", "n", 0), (take,)),))
        self.assertEqual(judge(one, loop, ({1: (1,) + tail}, {})),
                         ("double", {"n": (2, 0)}, (1, (0, 0), (0, 0), (0,)), (1, (0, 0), (0, 0), (1,))))

    def test_mixed_by_images(self):
        """The takes have images of their own kind and cell, but not those of the puts."""
        def body(take, put):
            return (("take", "x", ("a", (take,))), ("let", "y", "f", ("x",)), ("put", ("b", put), "y"))

        plain = (("none", None, 0), NOUGHT)
        one = Kernel(2, (1, 1), (LONE, LONE), ONE.sizes, (), ONE.arrays, (("short", "o", 2, body(
            plain, ((("none", None, 0), ("turn", "o")),))),))
        other = Kernel(2, (1, 2), (LONE, LONE), ONE.sizes, (), ONE.arrays, body(plain, ((("none", None, 0), ("lane", 1)),)))
        head = (STILL, STILL), (NOUGHT, NOUGHT)
        good = ({0: (1,) + head + ((("lane", 1),),), 2: (3,) + head + ((("lane", 1),),)}, {})
        self.assertEqual(judge(one, other, good), ("alike",))
        self.assertEqual(judge(one, other, ({**good[0], 0: (1,) + head + ((MINE,),)}, {})),
                         ("mixed", {"n": (0, 0)}, (2, (0, 0), (0, 0), ())))
        arrays = (ONE.arrays[0], ("far", "b", ("n", "n")))
        square = body(plain, ((("turn", "t", 0), NOUGHT), (("turn", "u", 0), NOUGHT)))
        for name in "ut":
            square = (("long", name, ("none", None, 0), ("tiles", "n", 0), square),)
        loops = Kernel(2, (1, 1), (LONE, LONE), ONE.sizes, (), arrays, square)
        t, u = (("turn", "t", 0), NOUGHT), (("turn", "u", 0), NOUGHT)
        self.assertEqual(judge(loops, loops, ({2: (2,) + head + ((t, u),), 4: (4,) + head + ((t, u),)}, {})), ("alike",))
        self.assertEqual(judge(loops, loops, ({2: (2,) + head + ((u, t),), 4: (4,) + head + ((t, u),)}, {})),
                         ("mixed", {"n": (2, 0)}, (4, (0, 0), (0, 0), (0, 1))))

    def test_puts_between_in_loops(self):
        again = (("long", "t", ("none", None, 1), ("tiles", "n", 0), (
            ("take", "v", ("b", (HERE,))), ("put", ("s", (("lane", 1),)), "v"), ("meet",))),)
        late = copy_with(COPY.body[:3] + again + COPY.body[3:])
        chart = ({7: COPIED[0][3], 9: COPIED[0][5]}, {7: COPIED[1][3]})
        self.assertEqual(judge(ONE, late, chart), ("unfetched", {"n": (2, 0)}, (7, (0, 0), (0, 0), ())))
        less = copy_with(COPY.body[:3] + (again[0][:3] + (("none", None, 1),) + again[0][4:],) + COPY.body[3:])
        self.assertEqual(judge(ONE, less, chart), ("alike",))

    def test_papers_of_the_example(self):
        papers = judge_papers(ONE, COPY, COPIED)
        sayings = judge_sayings(ONE, COPY, COPIED)
        self.assertEqual(list(papers), judging.WORDS)
        self.assertEqual(list(sayings), judging.WORDS)
        for word in judging.WORDS:
            for (_, saying), tree in zip(sayings[word], papers[word]):
                self.assertTrue(is_tree([(saying, True)], tree))
        self.assertIs(are_judge_papers(ONE, COPY, COPIED, papers), True)
        backwards = {word: tuple(papers[word]) for word in reversed(judging.WORDS)}
        self.assertIs(are_judge_papers(ONE, COPY, COPIED, backwards), True)
        for word in judging.WORDS:
            self.assertIs(are_judge_papers(ONE, COPY, COPIED, {own: papers[own] for own in papers if own != word}), False)
            for wrong in (None, papers[word][:-1], papers[word] + [("or", ())], {}, [None] * len(papers[word])):
                if wrong != papers[word]:
                    self.assertIs(are_judge_papers(ONE, COPY, COPIED, {**papers, word: wrong}), False, (word, wrong))
        for wrong in (None, 5, [], {}, list(papers.items()), {**papers, "more": []}, {**papers, True: []}):
            self.assertIs(are_judge_papers(ONE, COPY, COPIED, wrong), False)
        self.assertIsNone(judge_papers(ONE, laned_kernel(MINE), CHART))
        self.assertIs(are_judge_papers(ONE, laned_kernel(MINE), CHART, judge_papers(ONE, OTHER, CHART)), False)

    def test_keys(self):
        sayings = judge_sayings(ONE, COPY, COPIED)
        lanes = [((0, lane), (), (0,), ()) for lane in (0, 1)]
        self.assertEqual([key for key, _ in sayings["unfetched"]], [(3, choice) for choice in lanes])
        self.assertEqual([key for key, _ in sayings["strange"]], [(point, own) for point in (3, 5) for own in lanes])
        self.assertEqual([key for key, _ in sayings["double"]], [
            (point, lanes[one], point, lanes[other]) for point in (3, 5) for one, other in ((0, 0), (0, 1), (1, 1))])
        shorts = [((0, 0), (turn,), (0,), ()) for turn in (0, 1)]
        self.assertEqual([key for key, _ in sayings["undone"]], [(point, own) for point in (2, 4) for own in shorts])
        self.assertEqual([key for key, _ in sayings["mixed"]], [(5, choice) for choice in lanes])
        self.assertEqual([key for key, _ in sayings["turned"]], [(5, one, 5, other) for one in lanes for other in lanes])

    def test_too_many(self):
        body = (("let", "x", "f", ()), ("put", ("a", ((("block", 0, 0), ("turn", "k")), (("block", 1, 0), ("turn", "l")))), "x"))
        for name in "lkji":
            body = (("short", name, 4, body),) if name != "i" else body
        sizes = (("n", tuple(range(8))), ("m", tuple(range(8))))
        wide = Kernel(8, (1, 1), (("tiles", "n", 0), ("tiles", "m", 0)), sizes, (), (("far", "a", ("n", "m")),), body)
        target = (3 + 1, ((("block", 0, 0), NOUGHT), (("block", 1, 0), NOUGHT)), (NOUGHT, NOUGHT),
                  (("turn", "j"), ("turn", "k"), ("turn", "l")))
        for one in (judge, judge_sayings, judge_papers):
            with self.assertRaises(TooMany) as caught:
                one(wide, wide, ({4: target}, {}))
            self.assertEqual(caught.exception.most, 20000)

    def test_too_many_keys(self):
        where = ((("none", None, 0), ("lane", 1)),
                 (("none", None, 0), ("plus", ("turn", "k"), ("plus", ("times", ("is", 8), ("lane", 0)),
                                                              ("times", ("is", 16), ("turn", "l"))))))
        body = (("short", "k", 8, (("short", "l", 2, (("let", "x", "f", ()), ("put", ("a", where), "x"))),)),)
        kernel = Kernel(8, (2, 8), (LONE, LONE), ONE.sizes, (), (("far", "a", ("n", "n")),), body)
        target = (3, (STILL, STILL), (("lane", 0), ("lane", 1)), (("turn", "k"), ("turn", "l")))
        self.assertTrue(never_races(kernel))
        for one in (judge, judge_sayings, judge_papers, lambda *told_ones: are_judge_papers(*told_ones, None)):
            with self.assertRaises(TooMany) as caught:
                one(kernel, kernel, ({3: target}, {}))
            self.assertEqual(caught.exception.most, 20000)

    def test_not_one_is_ahead_of_too_many(self):
        body = (("let", "x", "f", ()), ("put", ("a", (STILL, (("none", None, 0), ("turn", "l")))), "x"))
        for name in "lkj":
            body = (("short", name, 8, body),)
        sizes = (("n", tuple(range(8))), ("m", tuple(range(8))))
        wide = Kernel(8, (1, 2), (LONE, LONE), sizes, (), (("far", "a", ("n", "m")),), body)
        raced = Kernel(8, (1, 2), (LONE, LONE), sizes, (), wide.arrays, (
            ("let", "x", "f", ()), ("put", ("a", (STILL, STILL)), "x")))
        target = (4, (STILL, STILL), (NOUGHT, NOUGHT), (NOUGHT, NOUGHT, NOUGHT))
        with self.assertRaises(TooMany):
            never_races(wide)
        for one in (judge, judge_sayings, judge_papers):
            with self.assertRaises(NotOne):
                one(wide, raced, ({1: target}, {}))

    def test_gone_through(self):
        words = {}
        for seed in range(150):
            pair = pairing.made_pair(seed)
            if pair is None:
                continue
            one, other, chart = pair
            if not (never_races(one) and never_races(other)):
                with self.assertRaises(NotOne):
                    judge(one, other, chart)
                continue
            found = judge(one, other, chart)
            words[found[0]] = words.get(found[0], 0) + 1
            self.check_pair(one, other, chart, found, random.Random(seed))
        self.assertGreaterEqual(set(words), {"alike", "strange", "undone", "mixed"})

    def check_pair(self, one, other, chart, found, r):
        """What the judge says, its sayings and its papers, against what is gone through at small sizes."""
        most = judging.WORDS.index(found[0]) if len(found) > 1 else 5
        sayings = judge_sayings(one, other, chart)
        for word in judging.WORDS:
            keys = [key for key, _ in sayings[word]]
            self.assertEqual(keys, sorted(keys))
            self.assertTrue(all(is_saying(saying) for _, saying in sayings[word]))
        papers = judge_papers(one, other, chart)
        self.assertEqual(papers is None, len(found) > 1)
        if papers is not None:
            self.assertTrue(are_judge_papers(one, other, chart, papers))
        if len(found) > 1 and sum(len(done) for done in Run(other, found[1]).lists.values()) <= 60:
            bench = judging.Bench(one, other, chart, found[1])
            told_ones = bench.told(most)
            self.assertFalse(any(told_ones[word] for word in judging.WORDS[:most]))
            self.assertIn(found[2] if len(found) == 3 else found[2:], told_ones[found[0]])
        for sizes in all_sizes_up_to(other, 2):
            many = sum(len(done) for done in Run(other, sizes).lists.values())
            if many <= 24 and all(pair[0] * one.width + pair[1] <= 4 for pair in sizes.values()):
                bench = judging.Bench(one, other, chart, sizes)
                self.check_sayings(bench, sayings, most)
                self.check_stories(bench, found, r)

    def check_sayings(self, bench, sayings, most):
        """That each saying holds just where its word is to be told, up to the word that the judge tells."""
        wanted = bench.told(most)
        for word in wanted:
            kernel = bench.one if word == "undone" else bench.other
            known = dict(sayings[word])
            instances = [deed for done in Run(kernel, bench.sizes).lists.values() for deed in done
                         if kernel.statements[deed[0]][0] != "meet"]
            keys = {deed: (deed[0], judging.choice_of(kernel, bench.sizes, deed)) for deed in instances}
            pairs = word in ("double", "turned")
            for deed in instances:
                for other in instances if pairs else (None,):
                    key = keys[deed] + keys[other] if pairs else keys[deed]
                    told_one = (deed, other) if pairs else deed
                    if key not in known:
                        self.assertNotIn(told_one, wanted[word])
                        continue
                    numbers = judging.numbers_of(kernel, bench.sizes, deed)
                    if pairs:
                        numbers.update(judging.numbers_of(kernel, bench.sizes, other, " b"))
                    names = free_names(known[key])
                    self.assertLessEqual(set(names), set(numbers))
                    holds_there = holds(known[key], {name: numbers[name] for name in names})
                    self.assertEqual(holds_there, told_one in wanted[word], (word, key))

    def check_stories(self, bench, found, r):
        """That told is the story of one, behind drawn orders, exactly if nothing but "mixed" is to be told."""
        wanted = bench.told(5)
        first = [word for word in wanted if wanted[word]]
        whole = story(bench.one, bench.sizes, [])
        for order in ([], planning.drawn_order(bench.other, bench.sizes, r)):
            same = told(bench.one, bench.other, bench.chart, bench.sizes, order) == whole
            self.assertEqual(same, not [word for word in first if word != "mixed"], (found, first))
        if found == ("alike",):
            self.assertEqual(first, [])


if __name__ == "__main__":
    unittest.main()
