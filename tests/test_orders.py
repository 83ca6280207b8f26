"""Point [72]: two orders that show a race."""

import itertools
import unittest

import runs
import samples
from lanesmeet.beside import compared
from lanesmeet.errors import BadKernel, BadRace, StandsStill
from lanesmeet.kernels import Kernel
from lanesmeet.machine import outcome_of
from lanesmeet.orders import two_orders
from lanesmeet.parted import parted_region
from lanesmeet.races import is_race, race, races_at

ONE = samples.ONE


def wanted_orders(kernel, race_told):
    """The two orders, made as the document tells them, with a machine of the tests."""
    sizes, one, other = race_told
    plain = runs.Plain(kernel, sizes)
    spots = plain.start()
    order = []

    def step(pair):
        nonlocal spots
        spots = plain.moved(spots, pair)
        order.append(pair)

    def text(blocks, goes_on):
        while goes_on():
            able = [pair for pair in plain.able(spots) if pair[0] in blocks]
            if not able:
                return
            step(able[0])

    own = sorted({one[1], other[1]})
    text([block for block in plain.blocks if block not in own], lambda: True)
    for block in own:
        instance = one if one[1] == block else other

        def waits():
            for lane in plain.lanes:
                for at, done in enumerate(plain.lists[(block, lane)]):
                    if plain.words[done[0]] == "meet" and at >= spots[(block, lane)]:
                        if compared(kernel, (done[0], done[3]), (instance[0], instance[3])) == -1:
                            return True
            return False

        text([block], waits)
    for instance in (one, other):
        while plain.head(spots, instance[1:3]) != instance:
            step(instance[1:3])
    ahead = list(order)
    step(one[1:3])
    step(other[1:3])
    text(plain.blocks, lambda: True)
    rest = order[len(ahead) + 2:]
    return ahead + [one[1:3], other[1:3]] + rest, ahead + [other[1:3], one[1:3]] + rest


class Orders(unittest.TestCase):
    def test_errors(self):
        for thing in samples.NO_KERNELS:
            with self.assertRaises(BadKernel):
                two_orders(thing, None)
        kernel = samples.shift_kernel()
        sizes, one, other = race(kernel)
        for thing in (None, 5, (sizes, other, one), ({"n": (1, 0)}, one, other), [sizes, one, other],
                      ({"n": (2, False)}, one, other), (sizes, one, (2, (0, 0), (0, 2), ()))):
            with self.assertRaises(BadRace):
                two_orders(kernel, thing)

    def test_standing_still(self):
        guard = ("small", ("lane", 1), "same", ("is", 0))
        body = (("let", "w", "f", ()), ("put", ("s", (("is", 0),)), "w"), ("if", guard, (("meet",),), ()))
        kernel = Kernel(1, (1, 2), (ONE, ONE), (), (), (("shared", "s", (1,)),), body)
        found = ({}, (1, (0, 0), (0, 0), ()), (1, (0, 0), (0, 1), ()))
        self.assertTrue(is_race(kernel, found))
        with self.assertRaises(StandsStill):
            two_orders(kernel, found)
        with self.assertRaises(BadRace):
            two_orders(kernel, found[:2])

    def test_example(self):
        kernel = samples.shift_kernel()
        found = race(kernel)
        self.assertEqual(found, ({"n": (2, 0)}, (0, (1, 0), (0, 0), ()), (2, (0, 0), (0, 3), ())))
        low = [((0, 0), (0, lane)) for lane in range(4)]
        high = [((1, 0), (0, lane)) for lane in range(4)]
        rest = low[:3] + high[1:] + high
        first, second = two_orders(kernel, found)
        self.assertEqual(first, low + [high[0], low[3]] + rest)
        self.assertEqual(second, low + [low[3], high[0]] + rest)
        one, other = (outcome_of(kernel, found[0], order) for order in (first, second))
        self.assertEqual((one[0], other[0]), ("done", "done"))
        self.assertEqual(one[1][found[1]], (None, ()))
        self.assertEqual(other[1][found[1]], (found[2], ()))

    def test_outcomes_are_unlike(self):
        told = 0
        for seed in range(400):
            kernel = samples.made_kernel(seed, many=8)
            for sizes in itertools.islice(samples.all_sizes_up_to(kernel, 2), 4):
                if sizes in parted_region(kernel):
                    continue
                for one, other in races_at(kernel, sizes)[:4]:
                    orders = two_orders(kernel, (sizes, one, other))
                    self.assertIsInstance(orders, tuple)
                    self.assertEqual(orders, wanted_orders(kernel, (sizes, one, other)), (seed, sizes, one, other))
                    first, second = (outcome_of(kernel, sizes, order) for order in orders)
                    self.assertEqual((first[0], second[0]), ("done", "done"))
                    self.assertNotEqual(first, second)
                    changed = [own for own in (one, other) if first[1].get(own) != second[1].get(own)]
                    self.assertNotEqual(changed, [])
                    plain = runs.Plain(kernel, sizes)
                    for order, outcome in zip(orders, (first, second)):
                        self.assertEqual(len(order), len(plain.cells))
                        self.assertEqual(plain.outcome(order), outcome)
                    told += 1
        self.assertGreater(told, 300)


if __name__ == "__main__":
    unittest.main()
