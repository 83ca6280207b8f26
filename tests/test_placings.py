"""Point [124]: two ways of taking are always laid evenly."""

import itertools
import random
import unittest

from lanesmeet.banks import cost, is_laying
from lanesmeet.errors import BadBanks, BadCounts, BadLots
from lanesmeet.placings import evenly


def cells_of(counts):
    rows = counts[0] if len(counts) == 2 else 1
    return [(y, x) for y in range(rows) for x in range(counts[-1])]


def made_lots(r, cells, most):
    left = [cell for cell in cells if r.random() < 0.9]
    r.shuffle(left)
    found = []
    while left:
        count = r.randint(1, min(len(left), most))
        found.append(tuple(sorted(left[:count])))
        left = left[count:]
    return found + [()] * r.randint(0, 1)


class Evenly(unittest.TestCase):
    def check(self, counts, banks, first, second):
        laying = evenly(counts, banks, first, second)
        self.assertEqual(laying[0], "listed")
        self.assertIs(is_laying(counts, banks, laying), True)
        for lot in list(first) + list(second):
            self.assertEqual(cost(counts, banks, laying, lot), -(-len(lot) // banks))
        return laying

    def test_errors_in_order(self):
        for counts in (None, 4, [4], (), (0,), (17,), (4, 4, 4), (True,), ("4",)):
            with self.assertRaises(BadCounts):
                evenly(counts, None, None, None)
        for banks in (None, 0, 33, True, "4"):
            with self.assertRaises(BadBanks):
                evenly((2, 3), banks, None, None)
        good = [((0, 0), (0, 1)), ((1, 2),)]
        for told in (None, 5, {}, "", [None], [[(0, 0)]], [((0, 1), (0, 0))], [((0, 0), (0, 0))], [((0, 3),)], [((2, 0),)],
                     [((0, True),)], [((0,),)], [(0, 0)], [((0, 0), (0, 1)), ((0, 1), (0, 2))], [((0, 0),), ((0, 0),)], [([0, 0],)]):
            with self.assertRaises(BadLots) as caught:
                evenly((2, 3), 2, told, None)
            self.assertEqual(caught.exception.at, 0)
            with self.assertRaises(BadLots) as caught:
                evenly((2, 3), 2, good, told)
            self.assertEqual(caught.exception.at, 1)

    def test_by_hand(self):
        self.check((4,), 2, [], [])
        self.check((4,), 2, [()], ((), ()))
        self.check((1, 1), 1, [((0, 0),)], [((0, 0),)])
        self.check((4,), 1, [((0, 0), (0, 1), (0, 2), (0, 3))], ())
        rows = tuple(tuple((y, x) for x in range(4)) for y in range(4))
        columns = tuple(tuple((y, x) for y in range(4)) for x in range(4))
        for banks in range(1, 9):
            self.check((4, 4), banks, rows, columns)
            self.check((4, 4), banks, list(columns), list(columns))

    def test_large_grids(self):
        rows = [tuple((y, x) for x in range(16)) for y in range(16)]
        columns = [tuple((y, x) for y in range(16)) for x in range(16)]
        every = [tuple((y, x) for y in range(16) for x in range(16))]
        for banks in (1, 3, 7, 16, 32):
            self.check((16, 16), banks, rows, columns)
            self.check((16, 16), banks, every, columns)

    def test_gone_through(self):
        r = random.Random(124)
        for _ in range(800):
            counts = tuple(r.randint(1, 6) for _ in range(r.randint(1, 2)))
            banks = r.choice((1, 2, 3, 4, 5, 8, 32))
            cells = cells_of(counts)
            self.check(counts, banks, made_lots(r, cells, r.choice((2, 4, 9, 36))), made_lots(r, cells, r.choice((2, 4, 9, 36))))

    def test_no_laying_costs_less(self):
        r = random.Random(125)
        for _ in range(200):
            counts = (r.randint(1, 6),)
            banks = r.randint(1, 3)
            cells = cells_of(counts)
            lot = tuple(sorted(r.sample(cells, r.randint(0, len(cells)))))
            least = min(cost(counts, banks, ("listed", row), lot) for row in itertools.product(range(banks), repeat=len(cells)))
            self.assertEqual(least, -(-len(lot) // banks))

    def test_three_lists_may_want_more(self):
        lists = [((0, 0), (0, 1)), ((0, 1), (0, 2)), ((0, 0), (0, 2))]
        fits = {banks: any(all(cost((3,), banks, ("listed", row), lot) == 1 for lot in lists)
                           for row in itertools.product(range(banks), repeat=3)) for banks in (2, 3)}
        self.assertEqual(fits, {2: False, 3: True})
        for one, other in itertools.permutations(lists, 2):
            self.check((3,), 2, [one], [other])

    def test_what_is_passed_is_not_changed(self):
        first, second = [((0, 0), (0, 1))], [((0, 0),), ((0, 1),)]
        self.assertEqual(evenly((2,), 2, first, second), evenly((2,), 2, tuple(first), tuple(second)))
        self.assertEqual((first, second), ([((0, 0), (0, 1))], [((0, 0),), ((0, 1),)]))


if __name__ == "__main__":
    unittest.main()
