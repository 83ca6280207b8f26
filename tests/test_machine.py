"""Point [50]: runs and outcomes."""

import random
import unittest

import runs
import samples
from lanesmeet.errors import (
    BadBlock, BadCell, BadKernel, BadLane, BadOrder, BadSizesAt, NotAble, TooMany)
from lanesmeet.kernels import Kernel
from lanesmeet.machine import Run, outcome_of

ONE = samples.ONE


def share_kernel(meets):
    """The example: lane 0 puts into the shared cell 0, perhaps a meeting, lane 1 takes from it."""
    def only(lane, statement):
        return ("if", ("small", ("lane", 1), "same", ("is", lane)), (statement,), ())

    put = only(0, ("put", ("s", (("is", 0),)), "w"))
    take = only(1, ("take", "x", ("s", (("is", 0),))))
    middle = (("meet",),) if meets else ()
    return Kernel(1, (1, 2), (ONE, ONE), (), (), (("shared", "s", (1,)),), (("let", "w", "f", ()), put) + middle + (take,))


B = (0, 0)
PUT = (2, B, (0, 0), ())
CELL = ("s", (0,), B)


class Example(unittest.TestCase):
    def test_with_a_meeting(self):
        kernel = share_kernel(True)
        take = (5, B, (0, 1), ())
        run = Run(kernel, {})
        self.assertEqual(run.able(), [(B, (0, 0))])
        self.assertEqual(run.standing(B, (0, 0)), PUT)
        self.assertEqual(run.standing(B, (0, 1)), (3, B, (0, 1), ()))
        self.assertIsNone(run.end())
        self.assertEqual(run.content(CELL), (None, ()))
        with self.assertRaises(NotAble):
            run.do(B, (0, 1))
        self.assertEqual(run.do(B, (0, 0)), PUT)
        self.assertIsNone(run.standing(B, (0, 0)))
        self.assertEqual(run.content(CELL), (PUT, ()))
        self.assertEqual(run.met(), {PUT: (None, ())})
        self.assertEqual(run.able(), [(B, (0, 1))])
        self.assertEqual(run.do(B, (0, 1)), take)
        self.assertEqual(run.end(), "done")
        self.assertEqual(run.outcome(), ("done", {PUT: (None, ()), take: (PUT, ())}, {CELL: (PUT, ())}))
        self.assertEqual(runs.Plain(kernel, {}).orders(10), [[(B, (0, 0)), (B, (0, 1))]])

    def test_without_a_meeting(self):
        kernel = share_kernel(False)
        take = (4, B, (0, 1), ())
        first = outcome_of(kernel, {}, [(B, (0, 0)), (B, (0, 1))])
        second = outcome_of(kernel, {}, [(B, (0, 1))])
        self.assertEqual(first[1][take], (PUT, ()))
        self.assertEqual(second[1][take], (None, ()))
        self.assertEqual(outcome_of(kernel, {}, ()), first)

    def test_adds(self):
        body = (("let", "w", "f", ()), ("add", ("s", (("is", 0),)), "w"), ("meet",), ("take", "x", ("s", (("is", 0),))))
        kernel = Kernel(1, (1, 2), (ONE, ONE), (), (), (("shared", "s", (1,)),), body)
        adds = ((1, B, (0, 0), ()), (1, B, (0, 1), ()))
        for order in ([(B, (0, 0)), (B, (0, 1))], [(B, (0, 1)), (B, (0, 0))]):
            end, met, cells = outcome_of(kernel, {}, order)
            self.assertEqual((end, cells), ("done", {CELL: (None, adds)}))
            self.assertEqual(met, {(3, B, (0, lane), ()): (None, adds) for lane in (0, 1)})

    def test_standing_still(self):
        guard = ("small", ("lane", 1), "same", ("is", 0))
        body = (("if", guard, (("meet",),), ()), ("take", "x", ("s", (("is", 0),))))
        kernel = Kernel(1, (1, 2), (ONE, ("none", None, 2)), (), (), (("shared", "s", (1,)),), body)
        run = Run(kernel, {})
        self.assertEqual(run.able(), [(B, (0, 1)), ((0, 1), (0, 1))])
        run.finish()
        self.assertEqual(run.end(), ("still", [(B, (0, 0)), ((0, 1), (0, 0))]))
        self.assertEqual(run.outcome()[0], run.end())

    def test_meetings_of_unlike_turns(self):
        guard = ("small", ("turn", "k"), "same", ("lane", 1))
        body = (("short", "k", 2, (("if", guard, (("meet",),), ()),)),)
        kernel = Kernel(1, (1, 2), (ONE, ONE), (), (), (), body)
        run = Run(kernel, {})
        self.assertEqual(run.end(), ("still", [(B, (0, 0)), (B, (0, 1))]))
        self.assertEqual(run.standing(B, (0, 1)), (2, B, (0, 1), (1,)))

    def test_meetings_alone_are_gone_through_at_once(self):
        kernel = Kernel(1, (1, 2), (ONE, ONE), (), (), (), (("meet",), ("meet",)))
        self.assertEqual(Run(kernel, {}).end(), "done")
        self.assertEqual(outcome_of(kernel, {}, []), ("done", {}, {}))


class Errors(unittest.TestCase):
    def test_making(self):
        kernel = samples.shift_kernel(promises=(("n", None, 8),))
        for thing in samples.NO_KERNELS:
            for call in (lambda: Run(thing, None), lambda: outcome_of(thing, None, None)):
                with self.assertRaises(BadKernel):
                    call()
        for sizes in samples.NO_SIZES_AT:
            for call in (lambda: Run(kernel, sizes), lambda: outcome_of(kernel, sizes, None)):
                with self.assertRaises(BadSizesAt):
                    call()

    def test_too_many(self):
        kernel = Kernel(1, (1, 2), (("tiles", "n", 0), ONE), (("n", (0,)),), (), (), (("meet",), ("meet",)))
        Run(kernel, {"n": (5000, 0)})
        for call in (lambda: Run(kernel, {"n": (5001, 0)}), lambda: outcome_of(kernel, {"n": (999999999, 0)}, None)):
            with self.assertRaises(TooMany) as caught:
                call()
            self.assertEqual(caught.exception.most, 20000)
        bare = Kernel(1, (1, 2), (("tiles", "n", 0), ONE), (("n", (0,)),), (), (), ())
        run = Run(bare, {"n": (999999999, 0)})
        self.assertEqual((run.end(), run.able(), run.standing((999999998, 0), (0, 1))), ("done", [], None))

    def test_blocks_and_lanes(self):
        run = Run(samples.shift_kernel(), {"n": (2, 0)})
        for call in (run.standing, run.do):
            for block in (None, (2, 0), (0, 1), (True, 0), [0, 0], 0, (-1, 0)):
                with self.assertRaises(BadBlock):
                    call(block, None)
            for lane in (None, (0, 4), (1, 0), (0, True), [0, 0], 3):
                with self.assertRaises(BadLane):
                    call((0, 0), lane)

    def test_orders(self):
        kernel = samples.shift_kernel()
        sizes = {"n": (1, 0)}
        first = (B, (0, 0))
        for order, at in ((None, None), (5, None), ({}, None), ([None], 0), ([first, first], 1), ([list(first)], 0),
                          ([first, ((1, 0), (0, 0))], 1), ([((False, 0), (0, 0))], 0), ([first, (B, (0, True))], 1), ([first, (B, (False, 1))], 1),
                           ([first, (B, (0, 1)), "x"], 2),
                          ([(B, (0, 4))], 0), ([(B,)], 0)):
            run = Run(kernel, sizes)
            with self.assertRaises(BadOrder) as caught:
                run.go(order)
            self.assertEqual(caught.exception.at, at)
            self.assertEqual(len(run.met()), at or 0)
            with self.assertRaises(BadOrder) as caught:
                outcome_of(kernel, sizes, order)
            self.assertEqual(caught.exception.at, at)

    def test_cells(self):
        body = (("let", "w", "f", ()), ("put", ("s", (("is", 7), ("is", -1))), "w"))
        kernel = Kernel(2, (1, 1), (ONE, ONE), (("n", (0,)),), (), (("far", "a", ("n", "n")), ("shared", "s", (2, 2))), body)
        run = Run(kernel, {"n": (1, 0)})
        run.finish()
        for cell in (("a", ((-5, 0), (99, 1))), ("s", (0, 0), B), ("s", (-9, 99), B)):
            self.assertEqual(run.content(cell), (None, ()))
        self.assertEqual(run.content(("s", (7, -1), B)), ((1, B, (0, 0), ()), ()))
        for cell in (None, 5, (), ("a",), ("b", ((0, 0), (0, 0))), ("a", ((0, 2), (0, 0))), ("a", ((0, -1), (0, 0))),
                     ("a", ((0, 0),)), ("a", ((0, 0), (0, 0)), B), ("a", ((True, 0), (0, 0))), ("a", [(0, 0), (0, 0)]),
                     ("a", ((0, 0), 5)), ("s", (0, 0)), ("s", (0,), B), ("s", (0, 0), (1, 0)), ("s", (0, False), B),
                     ("s", [0, 0], B), ["s", (0, 0), B], ("s", (0, 0), None), ("a", ((0, 0, 0), (0, 0)))):
            with self.assertRaises(BadCell):
                run.content(cell)


class GoneThrough(unittest.TestCase):
    def small_runs(self, count, most):
        seed = 0
        while count:
            kernel = samples.made_kernel(seed, many=5)
            seed += 1
            for sizes in samples.all_sizes_up_to(kernel, 1):
                plain = runs.Plain(kernel, sizes)
                deeds = len(plain.cells)
                if not 2 <= deeds <= 7:
                    continue
                orders = plain.orders(most)
                if orders is not None and len(orders) > 1:
                    count -= 1
                    yield kernel, sizes, plain, orders
                    break

    def test_all_orders(self):
        for kernel, sizes, plain, orders in self.small_runs(60, 400):
            text = min(orders)
            stills = set()
            for order in orders:
                end, met, cells = outcome = outcome_of(kernel, sizes, order)
                self.assertEqual(outcome, plain.outcome(order))
                self.assertEqual(list(met), sorted(met))
                self.assertEqual(list(cells), sorted(cells))
                stills.add(repr(end))
                self.assertEqual(outcome_of(kernel, sizes, order[:2]),
                                 plain.outcome(min(one for one in orders if one[:2] == order[:2])))
            self.assertEqual(len(stills), 1)
            self.assertEqual(outcome_of(kernel, sizes, []), plain.outcome(text))

    def test_step_by_step(self):
        r = random.Random(5)
        for kernel, sizes, plain, orders in self.small_runs(60, 400):
            run = Run(kernel, sizes)
            spots = plain.start()
            for pair in r.choice(orders):
                self.assertEqual(run.able(), plain.able(spots))
                for own in plain.lists:
                    self.assertEqual(run.standing(*own), plain.head(spots, own))
                self.assertIsNone(run.end())
                self.assertEqual(run.do(*pair), plain.head(spots, pair))
                spots = plain.moved(spots, pair)
            self.assertEqual(run.able(), [])
            end = run.end()
            self.assertEqual(end, ("still", plain.waiting(spots)) if plain.waiting(spots) else "done")

    def test_neighbours_may_be_exchanged_unless_they_cross(self):
        exchanged = crossed = 0
        for kernel, sizes, plain, orders in self.small_runs(60, 200):
            known = {tuple(order): plain.outcome(order) for order in orders}
            for order in orders:
                deeds = plain.deeds_of(order)
                for at in range(len(order) - 1):
                    if order[at] == order[at + 1]:
                        continue
                    other = tuple(order[:at] + [order[at + 1], order[at]] + order[at + 2:])
                    if other in known and plain.deeds_of(other)[at] == deeds[at + 1]:
                        alike = known[other] == known[tuple(order)]
                        self.assertEqual(alike, not plain.cross(deeds[at], deeds[at + 1]))
                        exchanged += alike
                        crossed += not alike
        self.assertGreater(exchanged, 100)
        self.assertGreater(crossed, 20)

    def test_results_are_new(self):
        run = Run(share_kernel(False), {})
        run.able().append(5)
        run.met()[5] = 5
        run.outcome()[2][5] = 5
        self.assertEqual(len(run.able()), 2)
        self.assertEqual((run.met(), run.outcome()[2]), ({}, {}))
        sizes = {"n": (1, 0)}
        run = Run(samples.shift_kernel(), sizes)
        sizes["n"] = (0, 0)
        run.finish()
        self.assertEqual(len(run.met()), 8)


if __name__ == "__main__":
    unittest.main()
