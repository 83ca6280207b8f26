"""Point [105]: races in step."""

import itertools
import unittest

import runs
import samples
from lanesmeet.errors import BadKernel, BadSizesAt, BadWidth, TooMany
from lanesmeet.kernels import Kernel
from lanesmeet.meaning import cases_of
from lanesmeet.papers import is_tree
from lanesmeet.parted import parted_region
from lanesmeet.races import race_cases, race_papers, race_saying, races_at
from lanesmeet.steps import are_step_papers, race_in_step, races_in_step, right_widths, step_cases, step_papers

ONE = samples.ONE
B = (0, 0)
LANE = ("lane", 1)


def turn_kernel(**change):
    """The example of the point: each lane takes its cell, and puts into the next one, around the ring."""
    told = {"width": 4, "lanes": (1, 4), "blocks": (ONE, ONE), "sizes": (), "promises": (),
            "arrays": (("shared", "s", (4,)),), "body": (
                ("take", "x", ("s", (LANE,))),
                ("put", ("s", (("rest of", ("plus", LANE, ("is", 1)), 4),)), "x"))}
    return Kernel(**{**told, **change})


def widths_of(kernel):
    count = kernel.lanes[0] * kernel.lanes[1]
    return [width for width in range(1, count + 1) if count % width == 0]


def crew(kernel, width, lane):
    return (lane[0] * kernel.lanes[1] + lane[1]) // width


def step_order(kernel, one):
    """A key that puts instances in the order of their steps."""
    outer = [at for at, side in kernel.around(one[0]) if side is None]
    return [number for pair in zip(outer, one[3]) for number in pair] + [one[0]]


def orders_in_step(kernel, plain, width, most):
    """All orders in step, None if there are more than most."""
    found = []

    def is_next(spots, pair):
        own = step_order(kernel, plain.head(spots, pair))
        for other, done in plain.lists.items():
            if other[0] == pair[0] and crew(kernel, width, other[1]) == crew(kernel, width, pair[1]):
                rest = [one for one in done[spots[other]:] if plain.words[one[0]] in runs.DEEDS]
                if any(step_order(kernel, one) < own for one in rest):
                    return False
        return True

    def go(spots, order):
        if len(found) > most:
            return
        able = [pair for pair in plain.able(spots) if is_next(spots, pair)]
        if not able:
            found.append(order)
        for pair in able:
            go(plain.moved(spots, pair), order + [pair])

    go(plain.start(), [])
    return None if len(found) > most else found


def told_saying(kernel, width, case):
    """The saying of a step case, by the words of the point."""
    saying = race_saying(kernel, case)
    (one, number), (other, index), how = case
    lanes = [cases_of(kernel, point)[at][0][0] for point, at in ((one, number), (other, index))]
    if how != "same" or crew(kernel, width, lanes[0]) != crew(kernel, width, lanes[1]):
        return saying
    rows = []
    for at, side in kernel.around(one):
        if side is None and kernel.statements[at][0] == "long":
            turn = "turn " + kernel.statements[at][1]
            rows += [("row", turn, turn + " b", 0), ("row", turn + " b", turn, 0)]
    return ("and", saying[1] + tuple(rows))


def told_cases(kernel, width):
    found = []
    for case in race_cases(kernel):
        (one, number), (other, index), how = case
        first, second = cases_of(kernel, one)[number][0], cases_of(kernel, other)[index][0]
        led = how == "same" and crew(kernel, width, first[0]) == crew(kernel, width, second[0])
        if not led or one == other and first[1] == second[1]:
            found.append(case)
    return found


class Errors(unittest.TestCase):
    def test_errors_in_order(self):
        for thing in samples.NO_KERNELS:
            for call in (lambda: races_in_step(thing, None, None), lambda: step_cases(thing, None),
                         lambda: race_in_step(thing, None), lambda: step_papers(thing, None),
                         lambda: are_step_papers(thing, None, None), lambda: right_widths(thing)):
                with self.assertRaises(BadKernel):
                    call()
        kernel = turn_kernel(sizes=(("n", (0, 1)),), promises=(("n", None, 8),))
        for width in (None, 0, 3, 5, 8, -1, -2, True, "2", (2,), [2]):
            for call in (lambda: races_in_step(kernel, width, None), lambda: step_cases(kernel, width),
                         lambda: race_in_step(kernel, width), lambda: step_papers(kernel, width),
                         lambda: are_step_papers(kernel, width, None)):
                with self.assertRaises(BadWidth):
                    call()
        for sizes in samples.NO_SIZES_AT:
            with self.assertRaises(BadSizesAt):
                races_in_step(kernel, 2, sizes)

    def test_too_many(self):
        body = (("put", ("s", (("is", 0),)), "w"),)
        for name in "klm":
            body = (("short", name, 8, body),)
        many = turn_kernel(width=8, lanes=(2, 8), body=(("let", "w", "f", ()),) + body)
        for call in (lambda: step_cases(many, 2), lambda: race_in_step(many, 2), lambda: step_papers(many, 2),
                     lambda: are_step_papers(many, 2, {}), lambda: right_widths(many)):
            with self.assertRaises(TooMany) as caught:
                call()
            self.assertEqual(caught.exception.most, 20000)
        for call in (lambda: step_cases(many, 5), lambda: step_papers(many, 5)):
            with self.assertRaises(BadWidth):
                call()
        kernel = Kernel(1, (1, 2), (("tiles", "n", 0), ONE), (("n", (0,)),), (), (), (("meet",), ("meet",)))
        self.assertEqual(races_in_step(kernel, 2, {"n": (5000, 0)}), [])
        with self.assertRaises(TooMany):
            races_in_step(kernel, 2, {"n": (5001, 0)})


class Steps(unittest.TestCase):
    def test_example(self):
        kernel = turn_kernel()
        self.assertNotEqual(races_at(kernel, {}), [])
        self.assertEqual(right_widths(kernel), [4])
        self.assertEqual(races_in_step(kernel, 4, {}), [])
        self.assertIsNone(race_in_step(kernel, 4))
        # Lane 1 puts into cell 2, which lane 2 takes.
        pair = ((0, B, (0, 2), ()), (1, B, (0, 1), ()))
        self.assertIn(pair, races_in_step(kernel, 2, {}))
        self.assertEqual(races_in_step(kernel, 2, {}), [((0, B, (0, 0), ()), (1, B, (0, 3), ())), pair])
        self.assertEqual(race_in_step(kernel, 2), ({}, (0, B, (0, 0), ()), (1, B, (0, 3), ())))
        self.assertIsNone(step_papers(kernel, 2))
        self.assertEqual(step_papers(kernel, 4), {})
        self.assertIs(are_step_papers(kernel, 4, {}), True)

    def test_two_puts_of_one_step_race_in_every_width(self):
        put = ("put", ("s", (("is", 0),)), "w")
        kernel = turn_kernel(body=(("let", "w", "f", ()), put))
        self.assertEqual(right_widths(kernel), [])
        for width in (1, 2, 4):
            self.assertEqual(races_in_step(kernel, width, {}), races_at(kernel, {}))

    def test_without_a_race_all_widths_are_right(self):
        kernel = turn_kernel(body=(("take", "x", ("s", (LANE,))), ("put", ("s", (LANE,)), "x")))
        self.assertEqual(right_widths(kernel), [1, 2, 4])
        self.assertEqual(right_widths(turn_kernel(lanes=(1, 1))), [1])
        self.assertEqual(right_widths(turn_kernel(lanes=(2, 3), body=(("let", "w", "f", ()),))), [1, 2, 3, 6])

    def test_lanes_are_numbered_by_rows(self):
        take = ("take", "x", ("s", (("lane", 0),)))
        put = ("put", ("s", (("minus", ("is", 1), ("lane", 0)),)), "x")
        one = ("if", ("small", LANE, "same", ("is", 0)), (take, put), ())
        self.assertEqual(right_widths(turn_kernel(lanes=(2, 1), body=(one,))), [2])
        self.assertEqual(right_widths(turn_kernel(lanes=(2, 2), body=(one,))), [4])

    def test_turns_of_one_crew(self):
        # Lane 0 puts in turn t + 1 where lane 1 puts in turn t; in step that is settled.
        put = ("put", ("a", ((("turn", "t", 0), ("times", ("is", 2), LANE)),)), "w")
        loop = ("long", "t", ("none", None, 0), ("tiles", "n", 0), (put,))
        kernel = turn_kernel(width=2, lanes=(1, 2), sizes=(("n", (0,)),), arrays=(("far", "a", ("n",)),),
                             body=(("let", "w", "f", ()), loop))
        self.assertEqual(right_widths(kernel), [2])
        self.assertEqual(race_in_step(kernel, 1), ({"n": (2, 0)}, (2, B, (0, 0), (1,)), (2, B, (0, 1), (0,))))
        papers = step_papers(kernel, 2)
        self.assertTrue(papers)
        for case, tree in papers.items():
            self.assertTrue(is_tree([(told_saying(kernel, 2, case), True)], tree))
        self.assertFalse(all(is_tree([(race_saying(kernel, case), True)], papers[case]) for case in papers))

    def test_turns_are_equal_both_ways(self):
        # Here lane 1 puts in turn t + 1 where lane 0 puts in turn t.
        small = ("times", ("minus", ("is", 1), LANE), ("is", 2))
        loop = ("long", "t", ("none", None, 0), ("tiles", "n", 0), (("put", ("a", ((("turn", "t", 0), small),)), "w"),))
        kernel = turn_kernel(width=2, lanes=(1, 2), sizes=(("n", (0,)),), arrays=(("far", "a", ("n",)),),
                             body=(("let", "w", "f", ()), loop))
        self.assertEqual(race_in_step(kernel, 1), ({"n": (2, 0)}, (2, B, (0, 0), (0,)), (2, B, (0, 1), (1,))))
        self.assertEqual(right_widths(kernel), [2])
        self.assertIs(are_step_papers(kernel, 2, step_papers(kernel, 2)), True)

    def test_short_turns_of_one_crew(self):
        # The short turns of one crew's lanes are led if they are unlike.
        cell = ("s", (("plus", LANE, ("turn", "k")),))
        kernel = turn_kernel(lanes=(1, 2), body=(("let", "w", "f", ()), ("short", "k", 2, (("put", cell, "w"),))))
        self.assertEqual(races_at(kernel, {}), [((2, B, (0, 0), (1,)), (2, B, (0, 1), (0,)))])
        self.assertEqual(races_in_step(kernel, 2, {}), [])
        self.assertEqual((len(step_cases(kernel, 1)), step_cases(kernel, 2)), (1, []))
        self.assertEqual(right_widths(kernel), [2])

    def test_other_blocks_are_not_led(self):
        put = ("put", ("a", ((("none", None, 0), LANE),)), "w")
        kernel = turn_kernel(blocks=(("tiles", "n", 0), ONE), sizes=(("n", (0,)),), arrays=(("far", "a", ("n",)),),
                             body=(("let", "w", "f", ()), put))
        self.assertEqual(right_widths(kernel), [])
        self.assertEqual(race_in_step(kernel, 4), ({"n": (2, 0)}, (1, (0, 0), (0, 0), ()), (1, (1, 0), (0, 0), ())))
        self.assertEqual({case[2] for case in step_cases(kernel, 4)}, {"less 0", "less 1"})

    def test_cases_are_as_told(self):
        for seed in range(200):
            kernel = samples.made_kernel(seed, many=8)
            for width in widths_of(kernel):
                self.assertEqual(step_cases(kernel, width), told_cases(kernel, width), seed)

    def test_a_race_or_papers_never_both(self):
        counts = [0, 0]
        for seed in range(250):
            kernel = samples.made_kernel(seed, many=7)
            right = []
            for width in widths_of(kernel):
                found, papers = race_in_step(kernel, width), step_papers(kernel, width)
                self.assertEqual(found is None, papers is not None)
                counts[found is None] += 1
                if found is None:
                    right.append(width)
                    self.assertEqual(list(papers), step_cases(kernel, width))
                    for case in papers:
                        self.assertTrue(is_tree([(told_saying(kernel, width, case), True)], papers[case]))
                    self.assertIs(are_step_papers(kernel, width, papers), True)
                else:
                    sizes, one, other = found
                    self.assertEqual(races_in_step(kernel, width, sizes)[0], (one, other))
                    least = sum(tiles for tiles, _ in sizes.values())
                    for other_sizes in samples.all_sizes_up_to(kernel, 2):
                        if sum(tiles for tiles, _ in other_sizes.values()) < least:
                            self.assertEqual(races_in_step(kernel, width, other_sizes), [])
            self.assertEqual(right_widths(kernel), right)
            for width in right:
                self.assertLessEqual({other for other in widths_of(kernel) if other % width == 0}, set(right))
        self.assertGreater(min(counts), 100)

    def test_right_widths_are_told_at_small_sizes(self):
        for seed in range(150):
            kernel = samples.made_kernel(seed, many=7)
            right = right_widths(kernel)
            for width in widths_of(kernel):
                raced = any(races_in_step(kernel, width, sizes) for sizes in samples.all_sizes_up_to(kernel, 3))
                if width in right:
                    self.assertFalse(raced)

    def test_led_are_of_one_crew_and_unlike_steps(self):
        for seed in range(150):
            kernel = samples.made_kernel(seed, many=7)
            for sizes in itertools.islice(samples.all_sizes_up_to(kernel, 2), 3):
                for width in widths_of(kernel):
                    wanted = [(one, other) for one, other in races_at(kernel, sizes)
                              if one[1] != other[1] or crew(kernel, width, one[2]) != crew(kernel, width, other[2])
                              or (one[0], one[3]) == (other[0], other[3])]
                    self.assertEqual(races_in_step(kernel, width, sizes), wanted)

    def test_one_outcome_exactly_without_a_race_in_step(self):
        told = {}
        for seed in range(700):
            kernel = samples.made_kernel(seed, many=6)
            region = parted_region(kernel)
            for sizes in itertools.islice(samples.all_sizes_up_to(kernel, 1), 2):
                plain = runs.Plain(kernel, sizes)
                if sizes in region or not 2 <= len(plain.cells) <= 8:
                    continue
                right = set()
                for width in widths_of(kernel):
                    orders = orders_in_step(kernel, plain, width, 200)
                    if orders is None:
                        continue
                    outcomes = []
                    for order in orders:
                        outcome = plain.outcome(order)
                        if outcome not in outcomes:
                            outcomes.append(outcome)
                    one = len(outcomes) == 1
                    self.assertEqual(one, races_in_step(kernel, width, sizes) == [], (seed, sizes, width))
                    told[(width > 1, one)] = told.get((width > 1, one), 0) + 1
                    if one:
                        end, met, contents = outcomes[0]
                        right.add((repr(end), repr(sorted(met.items())), repr(sorted(contents.items()))))
                self.assertLessEqual(len(right), 1)
        self.assertGreater(min(told.values()), 40)
        self.assertEqual(len(told), 4)

    def test_are_step_papers_of_any_value(self):
        kernel = turn_kernel(width=2, lanes=(1, 2), sizes=(("n", (0,)),), arrays=(("far", "a", ("n",)),), body=(
            ("long", "t", ("none", None, 0), ("tiles", "n", 0), (
                ("take", "x", ("a", ((("turn", "t", 1), ("minus", ("is", 1), LANE)),))),
                ("put", ("a", ((("turn", "t", 0), LANE),)), "x"))),))
        papers = step_papers(kernel, 2)
        self.assertIs(are_step_papers(kernel, 2, dict(reversed(list(papers.items())))), True)
        first = next(iter(papers))
        for thing in (None, 5, [], list(papers), {}, {**papers, first: None}, {**papers, None: papers[first]},
                      {case: papers[case] for case in papers if case != first}, {**papers, first: ("ring", ())}):
            self.assertIs(are_step_papers(kernel, 2, thing), False)
        self.assertIs(are_step_papers(kernel, 1, papers), False)
        plain = samples.shift_kernel(promises=(("n", None, 1),))
        self.assertIs(are_step_papers(plain, 1, race_papers(plain)), True)

    def test_results_are_new(self):
        kernel = turn_kernel()
        step_cases(kernel, 2).clear()
        right_widths(kernel).clear()
        self.assertEqual((right_widths(kernel), len(step_cases(kernel, 2)) > 0), ([4], True))


if __name__ == "__main__":
    unittest.main()
