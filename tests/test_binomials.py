"""Point [101]: polys of choosers, and their sums."""

import itertools
import math
import random
import unittest

from lanesmeet.binomials import poly_at, poly_summed
from lanesmeet.errors import BadEnds, BadName, BadPoly, BadValues, TooMany

NAMES = ("a", "b", "tiles n", "z")


def over(number, k):
    product = 1
    for step in range(k):
        product *= number - step
    found, rest = divmod(product, math.factorial(k))
    assert rest == 0
    return found


def plain_at(poly, values):
    return sum(number * math.prod(over(values[name], k) for name, k in chooser) for chooser, number in poly.items())


def made_poly(r, names, most=3):
    found = {}
    for _ in range(r.randint(0, 4)):
        own = sorted(r.sample(names, r.randint(0, min(2, len(names)))))
        found[tuple((name, r.randint(1, most)) for name in own)] = r.choice((-5, -2, -1, 1, 1, 3, 10 ** 6))
    return found


def end_at(end, values):
    return end[1] + (0 if end[0] is None else values[end[0]])


class Polys(unittest.TestCase):
    def test_bad_polys(self):
        for poly in (None, 5, [], (), "", [((), 1)], {(): 0}, {(): True}, {(): None}, {(): "1"}, {None: 1}, {5: 1}, {"a": 1},
                     {("a", 1): 1}, {(("a",),): 1}, {(("a", 0),): 1}, {(("a", 13),): 1}, {(("a", True),): 1},
                     {((5, 1),): 1}, {((None, 1),): 1}, {(("b", 1), ("a", 1)): 1}, {(("a", 1), ("a", 2)): 1},
                     {(("a", 1, 1),): 1}, {(("a", 1),): 1, (): 0}, {(("a", -1),): 1}):
            with self.assertRaises(BadPoly):
                poly_at(poly, None)
            with self.assertRaises(BadPoly):
                poly_summed(poly, None, None, None)

    def test_bad_values(self):
        poly = {(("a", 1), ("b", 2)): 1}
        for values in (None, 5, [], {}, {"a": 1}, {"a": 1, "b": True}, {"a": 1, "b": None}, {"a": 1, "b": "2"},
                       {"a": 1, "b": 2, "c": None}, {"a": 1, "b": 2, 5: 1}, {"a": 1, "b": 2, None: 1}, (("a", 1), ("b", 2))):
            with self.assertRaises(BadValues):
                poly_at(poly, values)
        self.assertEqual(poly_at(poly, {"a": 3, "b": 4, "c": 9}), 18)

    def test_bad_names_and_ends(self):
        poly = {(("a", 1),): 1}
        for name in (None, 5, ("a",), True, ["a"]):
            with self.assertRaises(BadName):
                poly_summed(poly, name, None, None)
        good = (None, 0)
        for end in (None, 5, (), (None,), [None, 0], (None, True), (None, None), ("b", "1"), ("a", 1), (5, 1), (None, 0, 0),
                    (("b",), 1), (True, 1), {None: 0}):
            with self.assertRaises(BadEnds):
                poly_summed(poly, "a", end, good)
            with self.assertRaises(BadEnds):
                poly_summed(poly, "a", good, end)

    def test_by_hand(self):
        self.assertEqual(poly_at({}, {}), 0)
        self.assertEqual(poly_at({(): -7}, {}), -7)
        self.assertEqual(poly_at({(("a", 2),): 3}, {"a": -1}), 3)
        self.assertEqual(poly_at({(("a", 12),): 1}, {"a": 12}), 1)
        self.assertEqual(poly_at({(("a", 2),): 1}, {"a": 999999999}), 999999999 * 999999998 // 2)
        one = {(): 1}
        self.assertEqual(poly_summed(one, "x", (None, 0), ("n", -1)), {(("n", 1),): 1})
        self.assertEqual(poly_summed(one, "x", (None, 1), (None, 0)), {})
        self.assertEqual(poly_summed({(("x", 1),): 1}, "x", (None, 0), ("n", -1)), {(("n", 2),): 1})
        self.assertEqual(poly_summed({(("x", 1),): 1}, "x", (None, 0), ("n", 0)), {(("n", 1),): 1, (("n", 2),): 1})
        self.assertEqual(poly_summed(one, "x", ("m", 0), ("n", 2)), {(): 3, (("m", 1),): -1, (("n", 1),): 1})
        self.assertEqual(poly_summed({(("n", 1),): 2}, "x", ("n", 0), ("n", 4)), {(("n", 1),): 10})
        # n times n is n + 2 (n over 2).
        self.assertEqual(poly_summed({(("n", 1),): 1}, "x", (None, 1), ("n", 0)), {(("n", 1),): 1, (("n", 2),): 2})

    def test_too_many(self):
        high = {(("x", 12),): 1}
        with self.assertRaises(TooMany) as caught:
            poly_summed(high, "x", (None, 0), ("n", 0))
        self.assertEqual(caught.exception.most, 12)
        with self.assertRaises(TooMany):
            poly_summed({(("n", 12),): 1}, "x", (None, 0), ("n", 0))
        with self.assertRaises(BadEnds):
            poly_summed(high, "x", (None, 0), ("x", 0))
        # The ends are numbers, or what is above 12 goes away: then there is none.
        self.assertEqual(poly_summed(high, "x", (None, 0), (None, 12)), {(): 1})
        self.assertEqual(poly_summed(high, "x", ("n", 0), ("n", 0)), {(("n", 12),): 1})
        self.assertEqual(poly_summed({(("n", 12),): 1}, "x", ("n", 0), ("n", 2)), {(("n", 12),): 3})
        self.assertEqual(poly_summed({(("x", 11),): 1}, "x", (None, 0), ("n", -1)), {(("n", 12),): 1})

    def test_what_a_poly_means(self):
        r = random.Random(101)
        for _ in range(500):
            poly = made_poly(r, NAMES, 5)
            values = {name: r.randint(-9, 9) for name in NAMES}
            self.assertEqual(poly_at(poly, values), plain_at(poly, values))

    def test_the_sum_is_meant(self):
        r = random.Random(102)
        told = 0
        for _ in range(1500):
            poly = made_poly(r, NAMES)
            before = dict(poly)
            name = r.choice(NAMES + ("w",))
            others = [other for other in NAMES + ("w", None) if other != name]
            low, high = (r.choice(others), r.randint(-5, 5)), (r.choice(others), r.randint(-5, 5))
            found = poly_summed(poly, name, low, high)
            self.assertEqual(poly, before)
            self.assertEqual(list(found), sorted(found))
            poly_at(found, dict.fromkeys(NAMES + ("w",), 0))
            self.assertNotIn(name, [own for chooser in found for own, _ in chooser])
            for _ in range(12):
                values = {own: r.randint(-7, 7) for own in NAMES + ("w",)}
                first, last = end_at(low, values), end_at(high, values)
                if last >= first - 1:
                    wanted = sum(plain_at(poly, {**values, name: number}) for number in range(first, last + 1))
                    self.assertEqual(poly_at(found, values), wanted)
                    told += 1
        self.assertGreater(told, 5000)

    def test_just_one_poly_for_each_meaning(self):
        # Summed in two orders, the sums mean the same, and so they are one and the same.
        r = random.Random(103)
        for _ in range(300):
            poly = made_poly(r, ("a", "b", "n", "m"), 2)
            ends = [(r.choice((None, "n", "m")), r.randint(-3, 3)) for _ in range(4)]
            one = poly_summed(poly_summed(poly, "a", ends[0], ends[1]), "b", ends[2], ends[3])
            other = poly_summed(poly_summed(poly, "b", ends[2], ends[3]), "a", ends[0], ends[1])
            self.assertEqual(list(one.items()), list(other.items()))

    def test_facts(self):
        for low, high, k in itertools.product(range(-4, 4), range(-5, 5), range(1, 5)):
            if high >= low - 1:
                found = poly_summed({(("v", k),): 1}, "v", (None, low), (None, high))
                self.assertEqual(poly_at(found, {}), over(high + 1, k + 1) - over(low, k + 1))
        for c, k in itertools.product(range(-5, 6), range(1, 6)):
            found = poly_summed({(("v", k),): 1}, "v", ("n", c), ("n", c))
            wanted = {((("n", j),) if j else ()): over(c, k - j) for j in range(k + 1) if over(c, k - j)}
            self.assertEqual(found, wanted)


if __name__ == "__main__":
    unittest.main()
