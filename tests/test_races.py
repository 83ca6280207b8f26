"""Points [70] and [71]: races, their cases and sayings, the regions of races and of verdicts."""

import itertools
import random
import unittest

import runs
import samples
from lanesmeet.beside import are_beside, beside
from lanesmeet.errors import BadKernel, BadPair, BadSizesAt, TooMany
from lanesmeet.kernels import Kernel
from lanesmeet.machine import outcome_of
from lanesmeet.meaning import cases_of, cell_of, same_cell
from lanesmeet.papers import is_tree
from lanesmeet.parted import parted_region
from lanesmeet.races import (
    Outlines, are_race_papers, is_race, race, race_cases, race_papers, race_region, race_saying, races_at, verdict, verdict_at)
from lanesmeet.regions import Region, all_sizes
from lanesmeet.sayings import is_saying, systems_of

ONE = samples.ONE
B = (0, 0)
DEEDS = ("take", "put", "add")
HOWS = ("same", "less 0", "more 0", "less 1", "more 1")


def all_races(kernel, sizes):
    """All races at sizes, pair by pair."""
    plain = runs.Plain(kernel, sizes)
    found = []
    for one, other in itertools.combinations(sorted(plain.cells), 2):
        if one[1:3] != other[1:3] and plain.cross(one, other) and are_beside(kernel, sizes, one, other):
            found.append((one, other))
    return found


def array_of(kernel, point):
    statement = kernel.statements[point]
    return (statement[2] if statement[0] == "take" else statement[1])[0]


def all_cases(kernel):
    """All race cases, straight from their description."""
    shared = [name for sort, name, _ in kernel.arrays if sort == "shared"]
    deeds = [point for point, statement in enumerate(kernel.statements) if statement[0] in DEEDS]
    pairs = [(point, number) for point in deeds for number in range(len(cases_of(kernel, point)))]
    choices = {pair: cases_of(kernel, pair[0])[pair[1]][0] for pair in pairs}
    found = []
    for one, other in itertools.product(pairs, repeat=2):
        words = {kernel.statements[one[0]][0], kernel.statements[other[0]][0]}
        if one[0] > other[0] or not ("put" in words or words == {"add", "take"}):
            continue
        first, second = choices[one], choices[other]
        if first[2] != second[2] or same_cell(kernel, one[0], first, other[0], second) is None:
            continue
        for how in HOWS:
            if how == "same" and first[0] == second[0]:
                continue
            if how != "same" and array_of(kernel, one[0]) in shared:
                continue
            if one[0] == other[0] and how in ("more 0", "more 1"):
                continue
            if one[0] == other[0] and how == "same" and one[1] >= other[1]:
                continue
            found.append((one, other, how))
    return found


def without_races():
    return samples.shift_kernel(promises=(("n", None, 1),))


class RacesAt(unittest.TestCase):
    def test_errors_in_order(self):
        kernel = samples.shift_kernel(promises=(("n", None, 8),))
        for thing in samples.NO_KERNELS:
            for call in (lambda: races_at(thing, None), lambda: is_race(thing, None), lambda: race_cases(thing),
                         lambda: race_saying(thing, None), lambda: race(thing), lambda: race_papers(thing),
                         lambda: are_race_papers(thing, None), lambda: race_region(thing), lambda: verdict(thing),
                         lambda: verdict_at(thing, None)):
                with self.assertRaises(BadKernel):
                    call()
        for sizes in samples.NO_SIZES_AT:
            for call in (races_at, verdict_at):
                with self.assertRaises(BadSizesAt):
                    call(kernel, sizes)

    def test_too_many(self):
        kernel = Kernel(1, (1, 2), (("tiles", "n", 0), ONE), (("n", (0,)),), (), (), (("meet",), ("meet",)))
        self.assertEqual(races_at(kernel, {"n": (5000, 0)}), [])
        with self.assertRaises(TooMany) as caught:
            races_at(kernel, {"n": (5001, 0)})
        self.assertEqual(caught.exception.most, 20000)

    def test_by_hand(self):
        kernel = samples.shift_kernel()
        self.assertEqual(races_at(kernel, {"n": (1, 0)}), [])
        self.assertEqual(races_at(kernel, {"n": (2, 0)}), [((0, (1, 0), (0, 0), ()), (2, (0, 0), (0, 3), ()))])
        bare = samples.shift_kernel(meets=False)
        self.assertEqual(races_at(bare, {"n": (1, 0)}), [
            ((0, B, (0, lane + 1), ()), (1, B, (0, lane), ())) for lane in range(3)])

    def test_crossing(self):
        cell = ("s", (("is", 0),))
        deeds = {"take": ("take", "x", cell), "put": ("put", cell, "w"), "add": ("add", cell, "w")}
        for first, second in itertools.product(deeds, repeat=2):
            guard = ("small", ("lane", 1), "same", ("is", 0))
            body = (("let", "w", "f", ()), ("if", guard, (deeds[first],), (deeds[second],)))
            kernel = Kernel(1, (1, 2), (ONE, ONE), (), (), (("shared", "s", (1,)),), body)
            crosses = "put" in (first, second) or {first, second} == {"add", "take"}
            self.assertEqual(races_at(kernel, {}), [((2, B, (0, 0), ()), (3, B, (0, 1), ()))] if crosses else [])

    def test_gone_through(self):
        told = 0
        for seed in range(250):
            kernel = samples.made_kernel(seed, many=8)
            for sizes in samples.all_sizes_up_to(kernel, 2):
                found = races_at(kernel, sizes)
                self.assertEqual(found, all_races(kernel, sizes), (seed, sizes))
                told += len(found)
                for one, other in found[:5]:
                    self.assertIs(is_race(kernel, (sizes, one, other)), True)
                    self.assertIs(is_race(kernel, (sizes, other, one)), False)
        self.assertGreater(told, 1000)

    def test_is_race_of_any_value(self):
        kernel = samples.shift_kernel()
        sizes, one, other = {"n": (2, 0)}, (0, (1, 0), (0, 0), ()), (2, (0, 0), (0, 3), ())
        self.assertIs(is_race(kernel, (sizes, one, other)), True)
        self.assertIs(is_race(kernel, ({"n": (5, 0)}, one, other)), True)
        for thing in (None, 5, [sizes, one, other], (sizes, one), (sizes, other, one), ({"n": (1, 0)}, one, other),
                      ({"n": (2, False)}, one, other), (None, one, other), (sizes, one, one), (sizes, None, other),
                      (sizes, one, None), (sizes, (0, (True, 0), (0, 0), ()), other), (sizes, one, (2, B, (0, 2), ())),
                      (sizes, (0, (1, 0), (0, 0), []), other), (sizes, one, other, 1),
                      (sizes, (0, (0, 0), (0, 1), ()), (2, B, (0, 0), ())), (sizes, (1, (1, 0), (0, 0), ()), other)):
            self.assertIs(is_race(kernel, thing), False, thing)

    def test_what_is_near_a_race(self):
        cell = ("s", (("is", 0),))
        body = (("take", "x", cell), ("take", "x", cell), ("add", cell, "x"), ("add", cell, "x"), ("put", cell, "x"))
        kernel = Kernel(1, (1, 2), (ONE, ONE), (), (), (("shared", "s", (1,)),), body)
        for one, other in itertools.product(range(5), repeat=2):
            words = {body[one][0], body[other][0]}
            crosses = "put" in words or words == {"take", "add"}
            first = (one, B, (0, 0), ())
            self.assertEqual(is_race(kernel, ({}, first, (other, B, (0, 1), ()))), crosses and one <= other)
            self.assertIs(is_race(kernel, ({}, first, (other, B, (0, 0), ()))), False)

    def test_one_outcome_exactly_without_races(self):
        counts = [0, 0]
        for seed in range(1200):
            kernel = samples.made_kernel(seed, many=5)
            for sizes in itertools.islice(samples.all_sizes_up_to(kernel, 1), 2):
                plain = runs.Plain(kernel, sizes)
                if not 2 <= len(plain.cells) <= 6 or sizes in parted_region(kernel):
                    continue
                orders = plain.orders(300)
                if orders is None:
                    continue
                outcomes = [plain.outcome(order) for order in orders]
                one = all(outcome == outcomes[0] for outcome in outcomes)
                self.assertEqual(one, races_at(kernel, sizes) == [], (seed, sizes))
                self.assertEqual(verdict_at(kernel, sizes), "one" if one else "race")
                if one:
                    self.assertEqual(outcome_of(kernel, sizes, []), outcomes[0])
                counts[one] += 1
        self.assertGreater(min(counts), 60)


class Cases(unittest.TestCase):
    def test_all_of_them_in_order(self):
        told = 0
        for seed in range(160):
            kernel = samples.made_kernel(seed, many=6, lane_pairs=((1, 1), (1, 2), (2, 1), (1, 3)))
            found = race_cases(kernel)
            self.assertEqual(found, all_cases(kernel), seed)
            told += len(found)
        self.assertGreater(told, 1000)

    def test_too_many(self):
        body = (("put", ("a", ((("block", 0, 0), ("is", 0)),)), "w"),)
        for name in "kl":
            body = (("short", name, 8, body),)
        kernel = Kernel(1, (1, 2), (("tiles", "n", 0), ONE), (("n", (0,)),), (), (("far", "a", ("n",)),),
                        (("let", "w", "f", ()),) + body)
        # 128 cases: each with each, two ways, and those of unlike lanes in one block.
        for call in (race_cases, race, race_papers, race_region, verdict, lambda one: are_race_papers(one, None),
                     lambda one: verdict_at(one, {"n": (1, 0)})):
            with self.assertRaises(TooMany) as caught:
                call(kernel)
            self.assertEqual(caught.exception.most, 20000)

    def test_sayings(self):
        for seed in range(120):
            kernel = samples.made_kernel(seed, many=6)
            r = random.Random(seed)
            cases = race_cases(kernel)
            for case in r.sample(cases, min(6, len(cases))):
                (one, number), (other, index), _ = case
                first, second = cases_of(kernel, one)[number][0], cases_of(kernel, other)[index][0]
                rows = [("row",) + row for row in same_cell(kernel, one, first, other, second)]
                saying = race_saying(kernel, case)
                self.assertEqual(saying, ("and", (beside(kernel, case),) + tuple(rows)))
                self.assertTrue(is_saying(saying))

    def test_outlines_are_equal_exactly_if_sayings_are(self):
        told = 0
        for seed in range(250):
            kernel = samples.made_kernel(seed, many=9, lane_pairs=((1, 2), (2, 1)))
            outlines = Outlines(kernel)
            sayings = {}
            for case in race_cases(kernel)[:400]:
                sayings.setdefault(outlines.key_of(case, ()), set()).add(repr(race_saying(kernel, case)))
            self.assertTrue(all(len(own) == 1 for own in sayings.values()), seed)
            told += len(sayings)
        self.assertGreater(told, 1000)

    def test_bad_pairs(self):
        kernel = samples.shift_kernel()
        good = race_cases(kernel)
        self.assertEqual(len(good), 28)
        race_saying(kernel, good[0])
        pairs = [(point, number) for point in range(3) for number in range(5)]
        for case in itertools.product(pairs, pairs, HOWS):
            if case not in good:
                with self.assertRaises(BadPair):
                    race_saying(kernel, case)
        for case in (None, 5, list(good[0]), good[0][:2], good[0] + (1,), (good[0][0], good[0][1], 0), ((0, True),) + good[0][1:]):
            with self.assertRaises(BadPair):
                race_saying(kernel, case)


class Regions(unittest.TestCase):
    def test_example(self):
        kernel = samples.shift_kernel()
        self.assertEqual(race(kernel), ({"n": (2, 0)}, (0, (1, 0), (0, 0), ()), (2, (0, 0), (0, 3), ())))
        region = race_region(kernel)
        self.assertEqual((region.sizes, region.promises), (kernel.sizes, kernel.promises))
        self.assertEqual(region.told((0,)), [[(None, "tiles n", -2)]])
        self.assertIsNone(race_papers(kernel))
        quiet = without_races()
        self.assertIsNone(race(quiet))
        self.assertIs(bool(race_region(quiet)), False)
        self.assertIs(are_race_papers(quiet, race_papers(quiet)), True)
        bare = samples.shift_kernel(meets=False)
        self.assertEqual(race_region(bare).told((0,)), [[(None, "tiles n", -1)]])
        self.assertEqual(race(bare)[0], {"n": (1, 0)})
        self.assertEqual(verdict_at(kernel, {"n": (999999999, 0)}), "race")

    def test_meetings_of_a_long_loop(self):
        kernel = samples.loop_kernel()
        # What lane 1 takes behind the meeting of a turn, lane 0 covers ahead of that of the next one.
        region = race_region(kernel)
        self.assertEqual(region.least(), {"n": (2, 0)})
        self.assertEqual([[sizes["n"][0] for sizes in samples.all_sizes_up_to(kernel, 8) if sizes in region][at]
                          for at in (0, -1)], [2, 8])
        statements = list(kernel.body[1][4])
        twice = Kernel(kernel.width, kernel.lanes, kernel.blocks, kernel.sizes, (), kernel.arrays, (
            kernel.body[0], kernel.body[1][:4] + (tuple(statements + [("meet",)]),)))
        self.assertIsNone(race(twice))
        self.assertIs(are_race_papers(twice, race_papers(twice)), True)

    def test_gone_through(self):
        told = [0, 0]
        for seed in range(400):
            kernel = samples.made_kernel(seed, many=8)
            region = race_region(kernel)
            self.assertIsInstance(region, Region)
            for sizes in samples.all_sizes_up_to(kernel, 2):
                found = races_at(kernel, sizes)
                self.assertEqual(sizes in region, found != [], (seed, sizes))
                told[found != []] += 1
            first = race(kernel)
            self.assertEqual(first is None, not region)
            if first is not None:
                self.assertEqual(first[0], region.least())
                self.assertEqual(first[1:], races_at(kernel, first[0])[0])
        self.assertGreater(min(told), 300)

    def test_meetings_that_hang_on_rests_lanes_and_turns(self):
        """Races that some meeting parts, where guards around meetings ask for rests, lanes, tiles and turns."""
        lane, rest, turn = ("lane", 1), ("rest", "n"), ("turn", "k")
        guards = [("small", one, "same", ("is", number)) for one in (lane, rest, turn) for number in (0, 1)]
        guards.append(("order", (("turn", "t", 0), rest), (("none", None, 1), lane)))
        guards.append(("not", ("order", (("turn", "t", 0), turn), (("none", None, 1), ("is", 0)))))
        put = ("put", ("s", (("is", 0),)), "w")
        take = ("take", "x", ("s", (("is", 0),)))

        def only(number, statement):
            return ("if", ("small", lane, "same", ("is", number)), (statement,), ())

        counts = {}
        for guard in guards:
            for other in guards[:4]:
                meets = (("if", guard, (("meet",),), ()), ("if", other, (), (("meet",),)))
                for first, second in ((only(0, put), only(1, take)), (only(1, put), only(0, take))):
                    block = (("short", "k", 2, (first,) + meets[:1] + (second,) + meets[1:]),)
                    kernel = Kernel(2, (1, 2), (samples.ONE, samples.ONE), (("n", (0, 1)),), (), (("shared", "s", (1,)),), (
                        ("let", "w", "f", ()), ("long", "t", ("none", None, 0), ("tiles", "n", 0), block)))
                    region = race_region(kernel)
                    for sizes in samples.all_sizes_up_to(kernel, 3):
                        raced = bool(races_at(kernel, sizes))
                        counts[raced] = counts.get(raced, 0) + 1
                        self.assertEqual(sizes in region, raced, (guard, other, sizes))
        self.assertGreater(min(counts.values()), 50)

    def test_a_race_or_papers_never_both(self):
        counts = [0, 0]
        for seed in range(500):
            kernel = samples.made_kernel(seed, many=8)
            papers = race_papers(kernel)
            self.assertEqual(papers is None, race(kernel) is not None)
            counts[papers is None] += 1
            for case in race_cases(kernel)[::9] if papers is None else ():
                systems_of(race_saying(kernel, case))
            if papers is None:
                continue
            self.assertEqual(list(papers), race_cases(kernel))
            self.assertIs(are_race_papers(kernel, papers), True)
            for case in race_cases(kernel)[::7]:
                claims = [(race_saying(kernel, case), True)]
                self.assertIs(is_tree(claims, papers[case]), True)
                self.assertEqual(systems_of(claims[0][0]), [])
        self.assertGreater(min(counts), 100)

    def test_papers_of_any_value(self):
        kernel = without_races()
        papers = race_papers(kernel)
        case = race_cases(kernel)[0]
        self.assertIs(are_race_papers(kernel, dict(reversed(list(papers.items())))), True)
        less = {key: papers[key] for key in papers if key != case}
        alike = {**less, ((False, case[0][1]),) + case[1:]: papers[case]}
        for thing in (None, 5, {}, [], list(papers.items()), less, {**papers, 5: papers[case]}, alike,
                      {**papers, case: ("part", 0, ())}, {**papers, case: None}, {**less, case[::-1]: papers[case]}):
            self.assertIs(are_race_papers(kernel, thing), False)
        self.assertIs(are_race_papers(samples.shift_kernel(), papers), False)
        nothing = Kernel(1, (1, 1), (ONE, ONE), (), (), (), ())
        self.assertEqual(race_papers(nothing), {})
        self.assertIs(are_race_papers(nothing, {}), True)
        self.assertIs(are_race_papers(nothing, []), False)

    def test_verdicts(self):
        told = {"one": 0, "parted": 0, "race": 0}
        for seed in range(300):
            kernel = samples.made_kernel(seed, many=8)
            one, parted, raced = verdict(kernel)
            self.assertEqual(parted, parted_region(kernel))
            self.assertEqual(raced, race_region(kernel) - parted)
            self.assertEqual(one | parted | raced, all_sizes(kernel.sizes, kernel.promises))
            for first, second in itertools.combinations((one, parted, raced), 2):
                self.assertFalse(first & second)
            for sizes in samples.all_sizes_up_to(kernel, 2):
                word = verdict_at(kernel, sizes)
                self.assertIn(sizes, {"one": one, "parted": parted, "race": raced}[word])
                told[word] += 1
        self.assertGreater(min(told.values()), 60)

    def test_results_are_new(self):
        kernel = samples.shift_kernel()
        race_cases(kernel).clear()
        race(kernel)[0]["n"] = None
        races_at(kernel, {"n": (2, 0)}).clear()
        self.assertEqual(len(race_cases(kernel)), 28)
        self.assertEqual(race(kernel)[0], {"n": (2, 0)})
        self.assertEqual(cell_of(kernel, {"n": (2, 0)}, race(kernel)[1]), ("a", ((1, 0),)))


if __name__ == "__main__":
    unittest.main()
