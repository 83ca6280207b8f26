"""Point [102]: told sums."""

import itertools
import random
import unittest
import unittest.mock

import samples
from lanesmeet.binomials import poly_at
from lanesmeet.costs import idle_sums, issued_sums
from lanesmeet.differences import least_point, names_of, ring, turned
from lanesmeet.errors import BadNames, BadSum, BadSystem, BadValues, NotBounded, TooMany
from lanesmeet.told import points_for, unlike_at, worth

NAMES = ("a", "b", "c", "d")
BAD_SYSTEMS = (None, 5, {}, [None], [("a", "a", 1)], [("a", None, True)], [("a", None)], [("a", None, 0)] * 401, [["a", None, 0]])
BAD_SUMS = (None, 5, {}, "", [None], [()], [([], {})  + (1,)], [[[], {}]], [(None, {})], [([("a", "a", 1)], {})], [([], None)],
            [([], {(): 0})], [([], {(): True})], [([], {(("a", 13),): 1})], [([("a", None, True)], {})])


def keeps(system, point):
    return all((0 if a is None else point[a]) - (0 if b is None else point[b]) <= c for a, b, c in system)


def made_system(r, names, most=3):
    return [tuple(r.sample(list(names) + [None], 2)) + (r.randint(-most, most),) for _ in range(r.randint(0, 8))]


def made_sum(r, names):
    found = []
    for _ in range(r.randint(0, 4)):
        poly = {}
        for _ in range(r.randint(1, 3)):
            own = sorted(r.sample(names, r.randint(0, min(2, len(names)))))
            poly[tuple((name, r.randint(1, 2)) for name in own)] = r.choice((-3, -1, 1, 1, 2))
        found.append((made_system(r, names)[:3], poly))
    return found


def split_up(r, told, names):
    """The told sum, each pair in two that have together the same points."""
    found = []
    for system, poly in told:
        row = tuple(r.sample(list(names) + [None], 2)) + (r.randint(-2, 2),)
        found += [(system + [row], poly), (system + [turned(row)], poly)]
    r.shuffle(found)
    return found


def sum_names(told):
    return {name for system, poly in told for name in list(names_of(system)) + [own for chooser in poly for own, _ in chooser]}


def plain_worth(told, values):
    return sum(poly_at(poly, values) for system, poly in told if keeps(system, values))


class Worth(unittest.TestCase):
    def test_errors_in_order(self):
        for told in BAD_SUMS:
            with self.assertRaises(BadSum):
                worth(told, None)
        told = [([("a", None, 3)], {(("b", 1),): 2})]
        for values in (None, 5, [], {}, {"a": 1}, {"b": 1}, {"a": 1, "b": True}, {"a": None, "b": 1}, {"a": 1, "b": 1, 5: 1},
                       {"a": 1, "b": 1, "c": "1"}):
            with self.assertRaises(BadValues):
                worth(told, values)

    def test_by_hand(self):
        self.assertEqual(worth([], {}), 0)
        self.assertEqual(worth((), {}), 0)
        told = [([("a", None, 3)], {(("b", 1),): 2}), ([(None, "a", -3)], {(): 5}), ([], {(("a", 2),): 1})]
        self.assertEqual(worth(told, {"a": 3, "b": 4, "c": 0}), 8 + 5 + 3)
        self.assertEqual(worth(tuple(told), {"a": 4, "b": 4}), 5 + 6)
        self.assertEqual(worth([((("a", None, 3),), {(): 1})], {"a": 1}), 1)

    def test_gone_through(self):
        r = random.Random(102)
        for _ in range(500):
            told = made_sum(r, NAMES)
            values = {name: r.randint(-4, 4) for name in NAMES}
            self.assertEqual(worth(told, values), plain_worth(told, values))


class Points(unittest.TestCase):
    def test_errors_in_order(self):
        for system in BAD_SYSTEMS:
            with self.assertRaises(BadSystem):
                points_for(system, None)
        system = [("a", None, 3), (None, "a", 0), ("b", "a", 0)]
        for names in (None, "a", ["a"], ("c",), ("b", "a"), ("a", "a"), (None,), (5,), ("a", None), {"a": 1}, (("a",),), (["a"],)):
            with self.assertRaises(BadNames):
                points_for(system, names)
        with self.assertRaises(NotBounded) as caught:
            points_for(system, ("a", "b"))
        self.assertEqual(caught.exception.name, "b")
        with self.assertRaises(NotBounded) as caught:
            points_for([("b", "a", 0), ("a", "b", 0)], ("a", "b"))
        self.assertEqual(caught.exception.name, "a")
        # Without a point there is nothing that is not bounded.
        self.assertEqual(worth(points_for([("a", None, 0), (None, "a", -1), ("b", None, 0)], ("b",)), {"a": 0}), 0)

    def test_by_hand(self):
        # x from 0 to n - 1, and y from x on up to n.
        system = [(None, "x", 0), ("x", "n", -1), ("x", "y", 0), ("y", "n", 0)]
        for n, wanted in ((-3, 0), (0, 0), (1, 2), (2, 5), (3, 9), (999999999, 999999999 * 1000000002 // 2)):
            self.assertEqual(worth(points_for(system, ("x", "y")), {"n": n}), wanted)
        told = points_for(system, ("y",))
        self.assertEqual([worth(told, {"n": 4, "x": x}) for x in range(-1, 6)], [0, 5, 4, 3, 2, 0, 0])
        told = points_for(system, ())
        self.assertEqual([worth(told, {"n": 4, "x": x, "y": 3}) for x in range(-1, 6)], [0, 1, 1, 1, 1, 0, 0])
        self.assertEqual(worth(points_for([], ()), {}), 1)
        self.assertEqual(worth(points_for([("a", None, 3), (None, "a", 0)], ("a",)), {}), 4)

    def test_bounds_by_way_of_others(self):
        # y is told by x alone, and x by n.
        system = [("y", "x", 0), ("x", "y", 2), ("x", "n", 0), (None, "x", 0)]
        self.assertEqual(worth(points_for(system, ("x", "y")), {"n": 3}), 12)
        with self.assertRaises(NotBounded):
            points_for([("x", "n", 0), ("n", "y", 0)], ("x",))

    def test_gone_through(self):
        r = random.Random(103)
        told = [0, 0, 0]
        for _ in range(2500):
            system = made_system(r, NAMES[:r.randint(1, 4)])
            names = list(names_of(system))
            counted = tuple(sorted(r.sample(names, r.randint(0, min(2, len(names))))))
            others = [name for name in names if name not in counted]
            open_name = None
            if ring(system) is None:
                open_name = next((name for name in counted if not self.is_bounded(system, name, others)), None)
            if open_name is not None:
                with self.assertRaises(NotBounded) as caught:
                    points_for(system, counted)
                self.assertEqual(caught.exception.name, open_name)
                told[2] += 1
                continue
            found = points_for(system, counted)
            self.assertLessEqual(sum_names(found), set(others))
            for _ in range(4):
                values = {name: r.randint(-4, 4) for name in others}
                many = sum(keeps(system, {**values, **dict(zip(counted, numbers))})
                           for numbers in itertools.product(range(-14, 15), repeat=len(counted)))
                self.assertEqual(worth(found, values), many)
                told[many > 0] += 1
        self.assertGreater(min(told), 300)

    def is_bounded(self, system, name, others):
        """Whether the name has a greatest and a least difference to what is not counted."""
        reach = {}
        for way in (0, 1):
            seen, todo = {name}, [name]
            while todo:
                here = todo.pop()
                for row in system:
                    if row[way] == here and row[1 - way] not in seen:
                        seen.add(row[1 - way])
                        todo.append(row[1 - way])
            reach[way] = seen & (set(others) | {None})
        return bool(reach[0]) and bool(reach[1])

    def test_too_many(self):
        # Which of both is the greatest, and which the least, is told piece by piece.
        system = [("x", "a", 0), ("x", "b", 0), ("c", "x", 0), ("d", "x", 0)]
        self.assertEqual(worth(points_for(system, ("x",)), {"a": 5, "b": 7, "c": 1, "d": 2}), 4)
        for most in (3, 4):
            with unittest.mock.patch("lanesmeet.cases.MOST_CASES", most):
                if most == 4:
                    self.assertEqual(len(points_for(system, ("x",))), 4)
                    continue
                with self.assertRaises(TooMany):
                    points_for(system, ("x",))

    def test_too_many_names(self):
        # So many numbers one behind the other, below n: n + 11 over 12, and n + 12 over 13.
        names = tuple(sorted("x" + letter for letter in "abcdefghijklm"))
        rows = [(None, names[0], 0)] + [(one, other, 0) for one, other in zip(names, names[1:])]
        told = points_for(rows[:-1] + [(names[11], "n", -1)], names[:12])
        self.assertEqual([worth(told, {"n": n}) for n in (0, 1, 2, 3)], [0, 1, 13, 91])
        with self.assertRaises(TooMany) as caught:
            points_for(rows + [(names[12], "n", -1)], names)
        self.assertEqual(caught.exception.most, 12)
        self.assertEqual(worth(points_for(rows + [(names[12], None, 0)], names), {}), 1)

    def test_results_are_new(self):
        system = [("a", None, 3), (None, "a", 0), ("b", "a", 0), (None, "b", 0)]
        before = list(system)
        for _, poly in points_for(system, ("a",)):
            poly.clear()
        self.assertEqual(worth(points_for(system, ("a",)), {"b": 1}), 3)
        self.assertEqual(system, before)


class Unlike(unittest.TestCase):
    def test_errors_in_order(self):
        for told in BAD_SUMS:
            for other in (None, []):
                with self.assertRaises(BadSum):
                    unlike_at(told, other, [])
            with self.assertRaises(BadSum):
                unlike_at([], told, None)
        for system in BAD_SYSTEMS:
            with self.assertRaises(BadSystem):
                unlike_at([], [], system)

    def test_by_hand(self):
        one = [([], {(): 1})]
        self.assertIsNone(unlike_at([], [], []))
        self.assertEqual(unlike_at(one, [], []), {})
        self.assertIsNone(unlike_at(one, [], [("a", None, 0), (None, "a", -1)]))
        self.assertEqual(set(unlike_at(one, [], [("a", "b", 0)])), {"a", "b"})
        self.assertIsNone(unlike_at([([("a", None, 0)], {(): 2})], [([("a", None, 5)], {(): 2})], [(None, "a", -6)]))
        found = unlike_at([([("a", None, 0)], {(): 2})], [([("a", None, 5)], {(): 2})], [(None, "a", 9)])
        self.assertTrue(1 <= found["a"] <= 5)
        # a (a - 1) (a - 2) is 0 at 0, 1 and 2 alone.
        cube = [([], {(("a", 3),): 1})]
        self.assertIsNone(unlike_at(cube, [], [(None, "a", 0), ("a", None, 2)]))
        self.assertIn(unlike_at(cube, [], [(None, "a", 1), ("a", None, 3)]), ({"a": -1}, {"a": 3}))
        # Where a is b + 1, a and 1 + b are one; names that are not told may be any numbers.
        self.assertIsNone(unlike_at([([], {(("a", 1),): 1})], [([], {(("b", 1),): 1, (): 1})], [("a", "b", 1), ("b", "a", -1)]))
        found = unlike_at([([], {(("a", 1), ("b", 1)): 1})], [], [])
        self.assertTrue(found["a"] and found["b"])

    def test_gone_through(self):
        r = random.Random(104)
        told = [0, 0]
        for _ in range(1500):
            names = NAMES[:r.randint(1, 4)]
            one = made_sum(r, names)
            k = r.random()
            other = split_up(r, split_up(r, one, names), names) if k < 0.4 else made_sum(r, names)
            if 0.4 <= k < 0.6:
                other = split_up(r, one, names) + [(made_system(r, names)[:3], {(): 1})]
            system = made_system(r, names)
            every = sorted(sum_names(one) | sum_names(other) | set(names_of(system)))
            found = unlike_at(one, other, system)
            told[found is None] += 1
            if found is not None:
                self.assertEqual(list(found), every)
                self.assertTrue(keeps(system, found))
                self.assertNotEqual(plain_worth(one, found), plain_worth(other, found))
                continue
            points = itertools.product(range(-4, 5), repeat=len(every))
            if len(every) > 2:
                points = [[r.randint(-7, 7) for _ in every] for _ in range(200)]
            for numbers in points:
                point = dict(zip(every, numbers))
                if keeps(system, point):
                    self.assertEqual(plain_worth(one, point), plain_worth(other, point))
        self.assertGreater(min(told), 300)

    def test_the_counts_of_one_system_in_two_ways(self):
        r = random.Random(105)
        told = 0
        for _ in range(900):
            system = made_system(r, NAMES[:3])
            names = list(names_of(system))
            if not names or ring(system) is not None:
                continue
            row = tuple(r.sample(names + [None], 2)) + (r.randint(-2, 2),)
            counted = tuple(sorted(r.sample(names, r.randint(1, len(names)))))
            try:
                whole = points_for(system, counted)
            except NotBounded:
                continue
            parts = points_for(system + [row], counted) + points_for(system + [turned(row)], counted)
            self.assertIsNone(unlike_at(whole, parts, []))
            told += 1
            less = points_for(system + [row], counted)
            found = unlike_at(whole, less, [])
            broken = system + [turned(row)]
            self.assertEqual(found is None, ring(broken) is not None)
        self.assertGreater(told, 60)

    def test_sums_of_kernels(self):
        for seed in range(60):
            kernel = samples.made_kernel(seed, many=7)
            rows = [(None, "tiles " + name, 0) for name, _ in kernel.sizes]
            rows += [tuple(None if name is None else "tiles " + name for name in row[:2]) + row[2:] for row in kernel.promises]
            issued, idle = issued_sums(kernel, 1), idle_sums(kernel, 1)
            for rests in issued:
                # Crews of one lane are never idle.
                self.assertIsNone(unlike_at(idle[rests], [], rows))
                self.assertIsNone(unlike_at(issued[rests], issued[rests], rows))
                more = issued[rests] + [([], {(): 1})]
                self.assertEqual(unlike_at(issued[rests], more, rows) is None, ring(rows) is not None)
                self.assertTrue(ring(rows) is not None or least_point(rows) is not None)

    def test_too_many(self):
        names = ["n" + chr(97 + at) for at in range(14)]
        one = [([(name, None, 0)], {((name, 1),): 1}) for name in names]
        other = [([(name, None, 1)], {((name, 1),): 1}) for name in names]
        rows = [(name, None, 1) for name in names] + [(None, name, 1) for name in names]
        with self.assertRaises(TooMany) as caught:
            unlike_at(one, other + [([(name, None, 0), (None, name, 0)], {(): 1, ((name, 1),): 1}) for name in names]
                      + [([(name, None, 1), (None, name, -1)], {((name, 1),): -1}) for name in names]
                      + [([(name, None, 0), (None, name, 0)], {(): -1}) for name in names], rows)
        self.assertEqual(caught.exception.most, 20000)


if __name__ == "__main__":
    unittest.main()
