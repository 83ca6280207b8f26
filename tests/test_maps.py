"""Points [160], [161] and [164]: fellows, maps, images, fetches, and joined maps."""

import random
import unittest

import nestery
import pairing
import planning
from pairing import CHART, COPIED, FAR, LONE, NOUGHT, STILL, TAIL, copied_kernel, laned_kernel, plain_kernel
from samples import NO_KERNELS, NO_SIZES_AT, all_sizes_up_to
from lanesmeet.errors import BadFellows, BadInstance, BadMap, BadSizesAt
from lanesmeet.changes import changed
from lanesmeet.errors import BadChange
from lanesmeet.judge import judge
from lanesmeet.kernels import Kernel
from lanesmeet.making import cut, made
from lanesmeet.maps import are_fellows, fetch, image, is_map, joined_map
from lanesmeet.meaning import instances
from lanesmeet.needed import never_races
from lanesmeet.plans import Plan

ONE = plain_kernel()
OTHER = laned_kernel()
COPY = copied_kernel()
AT = {"n": (2, 0)}


def kernel_with(body, **change):
    told = {"width": 2, "lanes": (1, 2), "blocks": (("tiles", "n", 0), LONE), "sizes": (("n", (0,)),), "promises": (),
            "arrays": FAR + (("shared", "s", (2,)),), "body": body}
    return Kernel(**{**told, **change})


def all_instances(kernel, sizes):
    counts = [form[2] + (sizes[form[1]][0] if form[0] == "tiles" else 0) for form in kernel.blocks]
    for y in range(counts[0]):
        for x in range(counts[1]):
            for i in range(kernel.lanes[0]):
                for j in range(kernel.lanes[1]):
                    yield from instances(kernel, sizes, (y, x), (i, j))


class Fellows(unittest.TestCase):
    def test_fellows(self):
        self.assertIs(are_fellows(ONE, OTHER), True)
        self.assertIs(are_fellows(ONE, COPY), True)
        self.assertIs(are_fellows(OTHER, ONE), True)
        self.assertIs(are_fellows(COPY, ONE), False)
        self.assertIs(are_fellows(COPY, COPY), False)
        for thing in NO_KERNELS:
            self.assertIs(are_fellows(thing, OTHER), False)
            self.assertIs(are_fellows(ONE, thing), False)
        for change in ({"width": 4}, {"sizes": (("n", (0, 1)),)}, {"promises": (("n", None, 3),)},
                       {"arrays": FAR[:1]}, {"arrays": (("far", "a", ("n", "n")), FAR[1])},
                       {"arrays": (("far", "a", ("n",)), ("shared", "b", (2,)))}):
            self.assertIs(are_fellows(ONE, kernel_with((), **change)), False, change)
        self.assertIs(are_fellows(ONE, kernel_with((), arrays=(("far", "c", ("n",)),) + FAR[::-1])), True)

    def test_no_adds_to_shared_arrays(self):
        body = (("let", "x", "f", ()), ("add", ("s", (("lane", 1),)), "x"))
        self.assertIs(are_fellows(ONE, kernel_with(body)), False)
        self.assertIs(are_fellows(ONE, kernel_with((body[0], ("put",) + body[1][1:]))), True)

    def test_local(self):
        let = ("let", "x", "f", ())
        put = ("put", ("a", ((("block", 0, 0), ("lane", 1)),)), "x")
        short = ("short", "k", 2, (let, put))
        for body, local in (((let, put), True), ((short,), True), ((let, short), True), ((short, put), False),
                            ((let, ("short", "k", 2, (put,))), False), ((let, ("let", "y", "g", ("x", "x"))), True),
                            ((let, ("short", "k", 2, (("let", "y", "g", ("x",)),))), False),
                            ((("if", ("small", NOUGHT, "less", NOUGHT), (let,), (put,)),), False),
                            ((("if", ("small", NOUGHT, "less", NOUGHT), (let, put), (let, put)),), True),
                            ((let, ("meet",), short, put), True)):
            for one, other in ((ONE, kernel_with(body)), (kernel_with(body, arrays=FAR), ONE)):
                self.assertIs(are_fellows(one, other), local, body)


class Maps(unittest.TestCase):
    def test_good_ones(self):
        self.assertIs(is_map(ONE, OTHER, CHART), True)
        self.assertIs(is_map(ONE, COPY, COPIED), True)
        self.assertIs(is_map(ONE, OTHER, ({2: (4,) + TAIL}, {})), True)
        self.assertIs(is_map(ONE, OTHER, ({2: (4,) + TAIL, 0: (2,) + TAIL}, {})), True)
        self.assertIs(is_map(ONE, OTHER, ({2: (2,) + TAIL}, {})), True)
        self.assertIs(is_map(ONE, COPY, ({**COPIED[0], 0: (2,) + TAIL}, COPIED[1])), True)

    def test_errors_in_order(self):
        for thing in NO_KERNELS + (COPY,):
            with self.assertRaises(BadFellows):
                is_map(thing, OTHER, None)
            with self.assertRaises(BadFellows):
                image(thing, OTHER, None, None, None)
            with self.assertRaises(BadFellows):
                fetch(thing, OTHER, None, None, None)
        for one in (image, fetch):
            with self.assertRaises(BadMap):
                one(ONE, OTHER, None, None, None)
            for sizes in NO_SIZES_AT:
                if sizes != {"n": (9, 0)}:
                    with self.assertRaises(BadSizesAt):
                        one(ONE, OTHER, CHART, sizes, None)
        for thing in (None, 5, [], (0, (0, 0), (0, 0)), (0, (2, 0), (0, 0), ()), (1, (0, 0), (0, 0), ()),
                      (0, (0, 0), (0, 2), ()), [0, (0, 0), (0, 0), ()], (False, (0, 0), (0, 0), ()),
                      (0, (0, 0), (0, True), ()), (0, (0, 0), (0, 0), (0,))):
            with self.assertRaises(BadInstance):
                image(ONE, OTHER, CHART, AT, thing)
            with self.assertRaises(BadInstance):
                fetch(ONE, COPY, COPIED, AT, thing)
        with self.assertRaises(BadInstance):
            image(ONE, OTHER, ({2: (4,) + TAIL}, {}), AT, (0, (0, 0), (0, 0), ()))
        for point in (0, 1, 5):
            with self.assertRaises(BadInstance):
                fetch(ONE, COPY, COPIED, AT, (point, (0, 0), (0, 0), ()))

    def test_bad_targets(self):
        good = (2,) + TAIL
        blocks, lanes, turns = TAIL
        spot = STILL
        for target in (None, 5, [], list(good), good[:3], good + (1,), (3,) + TAIL, (1,) + TAIL, (9,) + TAIL,
                       (True,) + TAIL, ("2",) + TAIL, (2, (spot,), lanes, turns), (2, [spot, spot], lanes, turns),
                       (2, (spot, NOUGHT), lanes, turns), (2, blocks, (NOUGHT,), turns), (2, blocks, (NOUGHT, spot), turns),
                       (2, blocks, [NOUGHT, NOUGHT], turns), (2, blocks, lanes, turns[:1]), (2, blocks, lanes, turns + (spot,)),
                       (2, blocks, lanes, turns[::-1]), (2, blocks, lanes, list(turns)), (2, blocks, lanes, (NOUGHT, NOUGHT)),
                       (2, blocks, lanes, (spot, spot)), (2, blocks, lanes, ((("turn", "t", 0), NOUGHT), NOUGHT)),
                       (2, blocks, lanes, (spot, ("turn", "o"))), (2, blocks, lanes, (spot, ("rest", "m"))),
                       (2, blocks, lanes, ((("tiles", "m", 0), NOUGHT), NOUGHT)), (2, blocks, (("turn", "o"), NOUGHT), turns),
                       (2, ((("turn", "t", 0), NOUGHT), spot), lanes, turns), (2, blocks, (("is", True), NOUGHT), turns)):
            self.assertIs(is_map(ONE, OTHER, ({**CHART[0], 0: target}, {})), False, target)
        for target in ((2, blocks, lanes, (spot, ("rest", "n"))), (2, blocks, lanes, ((("tiles", "n", 3), NOUGHT), NOUGHT)),
                       (2, ((("block", 1, 2), ("lane", 0)), spot), (("lane", 0), ("rest", "n")), turns)):
            self.assertIs(is_map(ONE, OTHER, ({**CHART[0], 0: target}, {})), True, target)

    def test_bad_keys(self):
        good = (4,) + TAIL
        for chart in (None, 5, [], {}, (), ({},), [CHART[0], {}], CHART + ({},), (CHART[0], ()), (CHART[0], None),
                      (list(CHART[0]), {}), ({}, {}), ({0: (2,) + TAIL}, {}), ({**CHART[0], 1: good}, {}),
                      ({**CHART[0], 3: good}, {}), ({**CHART[0], -1: good}, {}), ({**CHART[0], "0": good}, {}),
                      ({False: (2,) + TAIL, 2: good}, {}), (CHART[0], {0: (1, (NOUGHT, NOUGHT), ())}),
                      ({**CHART[0], None: good}, {}), ({**CHART[0], (0,): good}, {})):
            self.assertIs(is_map(ONE, OTHER, chart), False, chart)
        deeds, sources = COPIED
        for chart in ((deeds, {}), ({5: deeds[5]}, sources), ({3: deeds[3]}, sources), ({**deeds, 1: deeds[5]}, sources),
                      (deeds, {**sources, 0: sources[3]}), (deeds, {**sources, 5: sources[3]}), (deeds, {True: sources[3]}),
                      ({**deeds, 4: deeds[5]}, sources), ({**deeds, 2: deeds[5]}, sources)):
            self.assertIs(is_map(ONE, COPY, chart), False, chart)

    def test_sources(self):
        lane = COPIED[1][3][1]
        for source in (None, 5, (1, lane), [1, lane, ()], (1, lane, (), ()), (0, lane, ()), (5, lane, ()), (2, lane, ()),
                       (True, lane, ()), (9, lane, ()), (1, lane[:1], ()), (1, list(lane), ()), (1, lane, (NOUGHT,)),
                       (1, (NOUGHT, STILL), ()), (1, (NOUGHT, ("turn", "o")), ()), (1, lane, [])):
            self.assertIs(is_map(ONE, COPY, (COPIED[0], {3: source})), False, source)
        here = (("block", 0, 0), ("lane", 1))
        body = (("let", "w", "f", ()), ("put", ("s", (("lane", 1),)), "w")) + COPY.body[2:]
        self.assertIs(is_map(ONE, kernel_with(body), COPIED), False)
        twice = (("take", "w", ("a", (here,))), ("let", "v", "f", ("w",)), ("put", ("s", (("lane", 1),)), "v"))
        self.assertIs(is_map(ONE, kernel_with(twice + COPY.body[2:]),
                             ({4: COPIED[0][3], 6: COPIED[0][5]}, {4: (2,) + COPIED[1][3][1:]})), False)
        other = COPY.arrays + (("shared", "r", (2,)),)
        body = COPY.body[:1] + (("put", ("r", (("lane", 1),)), "w"),) + COPY.body[2:]
        self.assertIs(is_map(ONE, kernel_with(body, arrays=other), COPIED), False)

    def test_images_and_fetches(self):
        for block in range(2):
            for lane in range(2):
                self.assertEqual(image(ONE, OTHER, CHART, AT, (0, (block, 0), (0, lane), ())),
                                 (2, (0, 0), (0, 0), (block, lane)))
                read = (3, (block, 0), (0, lane), ())
                self.assertEqual(image(ONE, COPY, COPIED, AT, read), (2, (0, 0), (0, 0), (block, 1 - lane)))
                behind = ((block, 0), (0, 1 - lane), ())
                self.assertEqual(fetch(ONE, COPY, COPIED, AT, read), ((1,) + behind, (0,) + behind))
        away = (COPIED[0], {3: (1, (NOUGHT, ("plus", ("lane", 1), ("is", 1))), ())})
        self.assertIsNone(fetch(ONE, COPY, away, AT, (3, (0, 0), (0, 1), ())))
        self.assertEqual(fetch(ONE, COPY, away, AT, (3, (1, 0), (0, 0), ()))[0], (1, (1, 0), (0, 1), ()))
        blocks = ((("block", 0, 3), ("minus", NOUGHT, ("lane", 1))), (("tiles", "n", -5), ("is", 5)))
        target = (2, blocks, (("is", 7), ("minus", ("lane", 1), ("is", 9))), ((("block", 0, 0), ("is", -3)), ("is", 4)))
        chart = ({**CHART[0], 0: target}, {})
        self.assertEqual(image(ONE, OTHER, chart, AT, (0, (1, 0), (0, 1), ())), (2, (3, -1), (7, -8), (-1, 4)))

    def test_loops_around_reads_and_puts(self):
        """Images and fetches with turns of loops, short and long."""
        for seed in range(40):
            pair = pairing.made_pair(seed)
            if pair is None:
                continue
            one, other, chart = pair
            for sizes in all_sizes_up_to(other, 1):
                for deed in all_instances(other, sizes):
                    if deed[0] in chart[0]:
                        point, block, lane, turns = image(one, other, chart, sizes, deed)
                        self.assertEqual((point, len(block), len(lane)), (chart[0][deed[0]][0], 2, 2))
                        self.assertEqual(len(turns), len(one.loops[point]))
                    if deed[0] in chart[1]:
                        found = fetch(one, other, chart, sizes, deed)
                        if found is not None:
                            self.assertIn(found[0], list(all_instances(other, sizes)))
                            self.assertEqual(found[0][1:], found[1][1:])
                            self.assertEqual(found[0][1], deed[1])
                            self.assertEqual(other.statements[found[1][0]][0], "take")


class Joined(unittest.TestCase):
    def test_errors_in_order(self):
        first = CHART
        for thing in NO_KERNELS:
            with self.assertRaises(BadFellows):
                joined_map(thing, OTHER, COPY, None, None)
            with self.assertRaises(BadFellows):
                joined_map(ONE, thing, COPY, None, None)
            with self.assertRaises(BadFellows):
                joined_map(ONE, OTHER, thing, None, None)
        with self.assertRaises(BadFellows):
            joined_map(ONE, COPY, OTHER, COPIED, None)
        with self.assertRaises(BadMap):
            joined_map(ONE, OTHER, OTHER, first, None)
        own = (((("block", 0, 0), NOUGHT), (("block", 1, 0), NOUGHT)), (("lane", 0), ("lane", 1)), ())
        second = ({0: (0,) + own, 2: (2,) + own}, {})
        self.assertEqual(list(joined_map(ONE, OTHER, OTHER, first, second)[0]), [0, 2])
        backwards = ({2: second[0][2], 0: second[0][0]}, {})
        self.assertEqual(list(joined_map(ONE, OTHER, OTHER, first, backwards)[0]), [0, 2])
        for chart in (None, 5, ({}, {}), [first[0], {}], CHART[::-1]):
            with self.assertRaises(BadMap):
                joined_map(ONE, OTHER, OTHER, chart, second)
        with self.assertRaises(BadMap):
            joined_map(ONE, OTHER, OTHER, ({2: first[0][2]}, {}), second)

    def test_by_hand(self):
        own = (((("block", 0, 1), ("is", 3)), (("block", 1, 0), NOUGHT)), (("lane", 0), ("minus", ("is", 1), ("lane", 1))), ())
        second = ({2: (2,) + own}, {})
        found, sources = joined_map(ONE, OTHER, OTHER, CHART, second)
        tile = (("block", 0, 1), ("plus", NOUGHT, ("times", ("is", 2), ("over", ("is", 3), 2))))
        self.assertEqual(found, {2: (4, (STILL, STILL), (NOUGHT, NOUGHT), (tile, ("minus", ("is", 1), ("lane", 1))))})
        self.assertEqual(sources, {})
        target = (4, (STILL, (("block", 0, 5), ("rest", "n"))), (("lane", 1), NOUGHT), ((("tiles", "n", 2), ("lane", 0)), NOUGHT))
        found, _ = joined_map(ONE, OTHER, OTHER, ({2: target}, {}), second)
        tile = (("block", 0, 6), ("plus", ("rest", "n"), ("times", ("is", 2), ("over", ("is", 3), 2))))
        self.assertEqual(found[2], (4, (STILL, tile), (("minus", ("is", 1), ("lane", 1)), NOUGHT),
                                    ((("tiles", "n", 2), ("lane", 0)), NOUGHT)))

    def test_short_loops(self):
        """There and back again: lanes to short turns to lanes."""
        back = (((("turn", "t", 0), NOUGHT), STILL), (NOUGHT, ("turn", "o")), ())
        first = ({2: (0,) + back, 4: (2,) + back}, {})
        self.assertIs(is_map(OTHER, ONE, first), True)
        self.assertEqual(judge(OTHER, ONE, first), ("alike",))
        found = joined_map(OTHER, ONE, OTHER, first, CHART)
        tile = (("block", 0, 0), ("plus", NOUGHT, ("times", ("is", 2), ("over", NOUGHT, 2))))
        self.assertEqual(found[0], {0: (0, (tile, STILL), (NOUGHT, ("lane", 1)), ()),
                                    2: (2, (tile, STILL), (NOUGHT, ("lane", 1)), ())})
        for deed in all_instances(OTHER, AT):
            if deed[0] != 1:
                self.assertEqual(image(OTHER, OTHER, found, AT, deed), deed)
        self.assertEqual(judge(OTHER, OTHER, found), ("alike",))
        more = ({**first[0], 2: (0, back[0], (NOUGHT, ("minus", ("is", 1), ("over", ("turn", "o"), 1))), ())}, {})
        found = joined_map(OTHER, ONE, OTHER, more, CHART)
        self.assertEqual(found[0][0][2], (NOUGHT, ("minus", ("is", 1), ("over", ("lane", 1), 1))))

    def test_two_reads(self):
        block = (("take", "x", nestery.at("a", nestery.turn("i", -1))), ("take", "y", nestery.at("a", nestery.turn("i"))),
                 ("let", "z", "f", ("x", "y")), ("put", nestery.at("b", nestery.turn("i")), "z"))
        nest = nestery.nest_of("n", (("a", "n"), ("b", "n")), (
            ("long", "i", nestery.bare(1), nestery.tiles("n"), block),))
        plan = Plan(2, (1, 2), (LONE, ("tiles", "n", 1)), {0: ("block", 1)}, (), (("a", None),))
        kernel, (deeds, sources) = made(nest, plan)
        self.assertEqual(len(sources), 2)
        backwards = ({key: deeds[key] for key in reversed(deeds)}, {key: sources[key] for key in reversed(sources)})
        self.assertIs(is_map(cut(nest, 2), kernel, backwards), True)
        self.assertEqual(judge(cut(nest, 2), kernel, backwards), ("alike",))

    def test_sources_stay(self):
        back = (((("block", 0, 0), NOUGHT), STILL), (NOUGHT, ("minus", ("is", 1), ("lane", 1))), ())
        second = ({3: (0,) + back, 5: (2,) + back}, COPIED[1])
        self.assertIs(is_map(OTHER, COPY, second), True)
        found = joined_map(ONE, OTHER, COPY, CHART, second)
        self.assertEqual(found[1], COPIED[1])
        self.assertIs(is_map(ONE, COPY, found), True)
        self.assertEqual(judge(OTHER, COPY, second), ("alike",))
        self.assertEqual(judge(ONE, COPY, found), ("alike",))

    def test_gone_through(self):
        """The image by a joined map is the image by the first of the image by the second."""
        many = 0
        for seed in range(40):
            r = random.Random(seed)
            nest = nestery.made_nest(seed, loops=2, pieces=2)
            try:
                later, first = changed(nest, (r.choice(("swap", "exchange", "join")), 0))
            except BadChange:
                later, first = (nest, None) if not nest.body else changed(nest, ("shift", 0, 1)) if \
                    nest.body[0][0] == "long" else (None, None)
            if first is None:
                continue
            plan = planning.fitting_plan(later, r, (1,))
            if plan is None:
                continue
            third, second = made(later, plan)
            middle = cut(later, 1)
            self.assertEqual(len(middle.statements) >= len(later.statements) - 4, True)
            chart = self.between(nest, middle, later, first)
            if chart is None:
                continue
            joined = joined_map(nest, middle, third, chart, second)
            self.assertIs(is_map(nest, third, joined), True)
            for sizes in all_sizes_up_to(third, 2):
                for deed in all_instances(third, sizes):
                    if deed[0] in joined[0]:
                        own = image(middle, third, second, sizes, deed)
                        if own in list(all_instances(middle, sizes)):
                            many += 1
                            self.assertEqual(image(nest, third, joined, sizes, deed),
                                             image(nest, middle, chart, sizes, own))
            if all(never_races(kernel) for kernel in (nest, middle, third)):
                words = [judge(nest, middle, chart)[0], judge(middle, third, second)[0], judge(nest, third, joined)[0]]
                self.assertTrue(words[:2] != ["alike", "alike"] or words[2] == "alike", words)
        self.assertGreater(many, 50)

    def test_gone_through_with_wider_tiles(self):
        """As above, where turns are cut into tiles and offsets, and shifted by more than a tile."""
        many = 0
        alike = 0
        for seed in range(60):
            r = random.Random(seed)
            nest = nestery.made_nest(seed, loops=2, pieces=2)
            loops = [point for point, statement in enumerate(nest.statements) if statement[0] == "long"]
            if not loops:
                continue
            later, chart = changed(nest, ("shift", r.choice(loops), r.choice((-3, -1, 1, 2, 5))))
            plan = planning.fitting_plan(later, r, (2, 3))
            if plan is None or plan.copies:
                continue
            one, two = cut(nest, plan.width), cut(later, plan.width)
            three, second = made(later, plan)
            first = self.cut_chart(one, two, later, chart, plan.width)
            self.assertIs(is_map(one, two, first), True)
            joined = joined_map(one, two, three, first, second)
            self.assertIs(is_map(one, three, joined), True)
            for sizes in all_sizes_up_to(three, 1):
                for deed in all_instances(three, sizes):
                    if deed[0] in joined[0]:
                        own = image(two, three, second, sizes, deed)
                        found = image(one, three, joined, sizes, deed)
                        if own in list(all_instances(two, sizes)):
                            many += 1
                            self.assertEqual(found, image(one, two, first, sizes, own))
                            self.assertIn(found, list(all_instances(one, sizes)))
            if len(three.statements) < 12 and all(never_races(kernel) for kernel in (one, two, three)):
                self.assertEqual(judge(one, two, first), ("alike",))
                words = judge(two, three, second)[0], judge(one, three, joined)[0]
                self.assertEqual(words[0] == "alike", words[1] == "alike")
                alike += words[0] == "alike"
        self.assertGreater(many, 100)
        self.assertGreater(alike, 5)

    def cut_chart(self, one, two, later, chart, width):
        """The map of two cuts that comes of a map of two nests whose statements have the same order."""
        points = [[point for point, statement in enumerate(kernel.statements) if statement[0] in ("take", "put", "add")]
                  for kernel in (one, two, later)]
        deeds = {}
        for own, new, point in zip(*points):
            turns = ()
            for (_, name, more), _ in chart[0][point][3]:
                small = ("plus", ("turn", name + "s"), ("is", more))
                turns = turns + ((("turn", name, 0), small), ("rest of", small, width))
            deeds[new] = (own, (STILL, STILL), (NOUGHT, NOUGHT), turns)
        return deeds, {}

    def between(self, nest, middle, later, chart):
        """The map of a nest and the cut of what came of it: statements of both have the same order."""
        deeds = {}
        old = [point for point, statement in enumerate(later.statements) if statement[0] in ("take", "put", "add")]
        new = [point for point, statement in enumerate(middle.statements) if statement[0] in ("take", "put", "add")]
        for point, own in zip(new, old):
            deeds[point] = chart[0][own]
        found = (deeds, {})
        return found if is_map(nest, middle, found) else None


if __name__ == "__main__":
    unittest.main()
