"""[3]: dicts that are returned have ascending keys, at every depth: what is returned is gone through."""

import random
import unittest

from samples import all_sizes_up_to, made_kernel

import nestery
import pairing
import planning
from lanesmeet import (
    carries, changes, gaps, heights, judge, making, nests, rounds, stories, wrongs)
from lanesmeet import banks, costs, covers, edges, lines, machine, needed, parted, races, steps, told, traffic, trimming
from lanesmeet.differences import chains, closed, least_point
from lanesmeet.errors import LaneError
from lanesmeet.meaning import cases_of
from lanesmeet.sayings import first_point, parting_point


def rank(thing):
    """What stands for thing where keys are put in order: None ahead of all others."""
    if isinstance(thing, tuple):
        return (1, tuple(rank(item) for item in thing))
    return (0,) if thing is None else (1, thing)


def dicts_in(thing):
    """All dicts in thing, at any depth."""
    if isinstance(thing, dict):
        yield thing
        for key in thing:
            yield from dicts_in(thing[key])
    if isinstance(thing, (list, tuple)):
        for item in thing:
            yield from dicts_in(item)


class Ascending(unittest.TestCase):
    def check(self, function, *arguments):
        try:
            found = function(*arguments)
        except LaneError as e:
            found = list(vars(e).values())
        for one in dicts_in(found):
            self.assertEqual(list(one), sorted(one, key=rank), function.__name__)
        return found

    def test_kernels(self):
        for seed in range(60):
            kernel = made_kernel(seed, many=5, widths=(2, 4), lane_pairs=((1, 2), (2, 2)))
            for one in (races.race, parted.parting, parted.parted_papers, edges.beyond, edges.beyond_papers,
                        needed.lots_of, needed.fewest_meetings, steps.right_widths, trimming.trimmed):
                self.check(one, kernel)
            for width in (1, 2):
                self.check(costs.issued_sums, kernel, width)
                self.check(costs.idle_sums, kernel, width)
                self.check(steps.race_in_step, kernel, width)
            self.check_points(kernel)
            self.check_far(kernel)
            for sizes in all_sizes_up_to(kernel, 1):
                self.check(costs.rows_at, kernel, 2, sizes)
                self.check(machine.outcome_of, kernel, sizes, [])

    def check_points(self, kernel):
        for point, statement in enumerate(kernel.statements):
            self.check(trimming.sides, kernel, point)
            window = ((0, 0),) * (len(statement[1][1]) if statement[0] == "put" else 1)
            for one in (covers.stray, covers.missing_sayings, covers.missing, covers.covered, covers.cover_papers):
                self.check(one, kernel, (point,), window)
            self.check(covers.double, kernel, (point,))
            for _, system in cases_of(kernel, point)[:2]:
                for one in (least_point, chains, closed):
                    self.check(one, system)
                names = sorted({name for row in system for name in row[:2] if name and name.startswith("turn")})
                self.check(told.points_for, system, tuple(names))
                saying = ("and", tuple(("row",) + row for row in system))
                self.check(first_point, saying)
                self.check(parting_point, saying, ("or", ()))
            for lot in self.check(banks.lots, kernel, point, 2):
                self.check(banks.access_for, kernel, point, 2, lot)

    def check_far(self, kernel):
        layout = {array: 0 for sort, array, _ in kernel.arrays if sort == "far"}
        for one in (traffic.needed_sums, traffic.line_sums):
            self.check(one, kernel, layout, 2)
        self.check(traffic.moved_sums, kernel, 2, layout, 2)
        for sizes in all_sizes_up_to(kernel, 1):
            self.check(lines.touches_at, kernel, 2, sizes, layout, 2)
        for sort, array, _ in kernel.arrays:
            self.check(edges.farthest, kernel, array, 0, 1)
            self.check(banks.paddings, kernel, array, 2, 3)
            self.check(banks.turnings, kernel, array, 2, 3)

    def test_nests(self):
        for seed in range(40):
            nest = nestery.made_nest(seed)
            for carry in carries.carries(nest):
                self.check(carries.carry_at, nest, carry)
            choice = {piece: ("none", None, 0) for piece in reversed(nests.pieces_of(nest))}
            self.check(heights.lifts, nest, choice)
            self.check(heights.fall, nest, choice)
            found = self.check(rounds.fewest_rounds, nest, "n")
            if found is not None:
                backwards = {piece: found[1][piece] for piece in reversed(found[1])}
                self.check(rounds.by_heights, nest, backwards, "r", "n")
            for point in range(len(nest.statements)):
                for change in (("swap", point), ("exchange", point), ("shift", point, 1)):
                    self.check(changes.changed, nest, change)
                    self.check(changes.spoil, nest, change)
            for sizes in all_sizes_up_to(nest, 1):
                self.check(stories.story, nest, sizes, [])
                self.check(nests.outcome_along, nest, sizes, nestery.deeds_at(nest, sizes)[::-1])

    def test_pairs_and_plans(self):
        for seed in range(40):
            r = random.Random(seed)
            nest = nestery.made_nest(seed, loops=2, pieces=2)
            plan = planning.fitting_plan(nest, r, (1, 2))
            if plan is not None:
                for one in (making.made, wrongs.missed, wrongs.torn, gaps.fewest_gaps):
                    self.check(one, nest, plan)
                self.assertEqual(list(plan.roles), sorted(plan.roles))
            pair = pairing.made_pair(seed)
            if pair is not None:
                self.check(judge.judge, *pair)
                for sizes in all_sizes_up_to(pair[1], 1):
                    self.check(stories.told, *pair, sizes, [])

    def test_papers_stand_in_the_order_of_their_cases(self):
        for seed in range(30):
            kernel = made_kernel(seed, many=4, widths=(2,), lane_pairs=((1, 2),))
            papers = races.race_papers(kernel)
            if papers is not None:
                self.assertEqual(list(papers), races.race_cases(kernel))


if __name__ == "__main__":
    unittest.main()
