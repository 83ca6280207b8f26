"""Points [10] to [12]: systems, points, rings, what follows, and what is left without a name."""

import itertools
import random
import unittest

from lanesmeet.differences import (
    chains, closed, follows, is_chains, is_follows, is_point, is_ring, is_row, is_system, joined, kept, least_point,
    most, needless, ring, without)
from lanesmeet.errors import BadName, BadNames, BadRow, BadSystem, BadSystems, NotBounded, Ringed, TooMany

EXAMPLE = [("x", None, 5), (None, "x", -2), ("y", "x", -3), (None, "y", 0)]
NO_SYSTEMS = [
    None, 3, "rows", {}, [("x", "x", 1)], [("x", None, True)], [("x", None)], [["x", None, 1]], [("", None, 1)],
    [("x" * 21, None, 1)], [(1, None, 1)], [(None, None, 1)], [("x", None, "1")], [("x", None, 1)] * 401,
    [("x", False, 1)]]


def names_of(system):
    return sorted({name for row in system for name in row[:2] if name is not None})


def keeps(system, point):
    value = dict(point)
    value[None] = 0
    return all(value[a] - value[b] <= c for a, b, c in system)


def ways_of(system, a, b, length):
    """All ways of this length, ascending."""
    for way in itertools.product(range(len(system)), repeat=length):
        here = a
        for at in way:
            if system[at][0] != here:
                break
            here = system[at][1]
        else:
            if here == b:
                yield list(way)


def sum_of(system, way):
    return sum(system[at][2] for at in way)


def first_ring(system):
    spots = [None] + names_of(system)
    for length in range(1, len(spots) + 1):
        found = [way for spot in spots for way in ways_of(system, spot, spot, length) if sum_of(system, way) < 0]
        if found:
            return min(found)
    return None


def first_way(system, a, b, fits):
    for length in range(len(names_of(system)) + 1):
        for way in ways_of(system, a, b, length):
            if fits(sum_of(system, way)):
                return way
    return None


def box(system, low, high):
    names = names_of(system)
    for numbers in itertools.product(range(low, high + 1), repeat=len(names)):
        point = dict(zip(names, numbers))
        if keeps(system, point):
            yield point


def small_systems():
    """Systems of up to three rows over two names, and some of more rows by a seed."""
    rows = [(a, b, c) for a, b in itertools.permutations((None, "x", "y"), 2) for c in (-2, 0, 1)]
    for count in range(3):
        for system in itertools.product(rows, repeat=count):
            yield list(system)
    r = random.Random(10)
    wide = [(a, b, c) for a, b in itertools.permutations((None, "x", "y", "z"), 2) for c in range(-3, 5)]
    for _ in range(500):
        yield [r.choice(wide) for _ in range(r.randint(3, 6))]


SMALL = list(small_systems())


class Forms(unittest.TestCase):
    def test_rows(self):
        for row in (("x", None, 0), (None, "x", -5), ("a b", "!", 7), ("x" * 20, "y", 0)):
            self.assertIs(is_row(row), True)
        for thing in (None, ["x", None, 0], ("x", "x", 0), (None, None, 0), ("x", None, True), ("x", None, None),
                      ("", None, 0), ("x" * 21, None, 0), ("x", 0, 0), ("x", None, 0, 0), {}, "row"):
            self.assertIs(is_row(thing), False)

    def test_systems(self):
        for system in ([], (), EXAMPLE, tuple(EXAMPLE), [("x", None, 1)] * 400):
            self.assertIs(is_system(system), True)
        for thing in NO_SYSTEMS:
            self.assertIs(is_system(thing), False)

    def test_every_function_asks_for_a_system(self):
        for thing in NO_SYSTEMS:
            for call in (
                    lambda: is_point(thing, {}), lambda: is_ring(thing, []), lambda: ring(thing),
                    lambda: least_point(thing), lambda: chains(thing), lambda: is_chains(thing, None, None),
                    lambda: most(thing, 5, 5), lambda: closed(thing), lambda: follows(thing, 5),
                    lambda: is_follows(thing, 5, 5), lambda: needless(thing), lambda: without(thing, 5),
                    lambda: kept(thing, 5)):
                with self.assertRaises(BadSystem):
                    call()

    def test_points_of_any_value(self):
        self.assertIs(is_point(EXAMPLE, {"x": 3, "y": 0}), True)
        for thing in (None, 3, [], {"x": 3}, {"x": 3, "y": 0, "z": 0}, {"x": 3, "y": False}, {"x": 3, "y": None},
                      {"x": 3, "y": -1}, {"x": 1, "y": 0}, [("x", 3), ("y", 0)], {"x": 3, True: 0}):
            self.assertIs(is_point(EXAMPLE, thing), False)
        self.assertIs(is_point([], {}), True)

    def test_rings_of_any_value(self):
        rows = EXAMPLE + [("x", "y", 2)]
        for thing in ([2, 4], (2, 4), [4, 2], [2, 4, 2, 4]):
            self.assertIs(is_ring(rows, thing), True)
        for thing in (None, [], [2], [4], [2, 4.5], [True, 4], [2, 5], [-3, 4], {2: 4}, [0, 1], "24", [[2], 4]):
            self.assertIs(is_ring(rows, thing), False)
        self.assertIs(is_ring([(None, "x", 0), ("x", None, -1)], [False, True]), False)
        # A sum of 0 is none below 0, and rows must hang together.
        self.assertIs(is_ring([(None, "x", 0), ("x", None, 0)], [0, 1]), False)
        loose = [("x", "y", -5), ("z", "x", 0), ("y", "x", 1)]
        for thing, wanted in (([0, 1], False), ([0, 2], True), ([0, 2, 1], False), ([5], False), ([3], False), ([-1], False)):
            self.assertIs(is_ring(loose, thing), wanted)


class LeastPoints(unittest.TestCase):
    def test_example(self):
        self.assertEqual(least_point(EXAMPLE), {"x": 3, "y": 0})
        self.assertEqual(list(least_point(EXAMPLE)), ["x", "y"])
        self.assertEqual(chains(EXAMPLE), {"x": [3, 2], "y": [3]})
        self.assertEqual(ring(EXAMPLE + [("x", "y", 2)]), [2, 4])
        self.assertIsNone(ring(EXAMPLE))
        self.assertIsNone(least_point(EXAMPLE + [("x", "y", 2)]))
        self.assertEqual((least_point([]), chains([]), ring([])), ({}, {}, None))

    def test_ring_or_point_never_both(self):
        for system in SMALL:
            found = ring(system)
            self.assertEqual(found, first_ring(system), system)
            self.assertEqual(found is None, next(box(system, -9, 9), None) is not None, system)
            if found is not None:
                self.assertTrue(is_ring(system, found))
                self.assertIsNone(least_point(system))
                with self.assertRaises(Ringed) as caught:
                    chains(system)
                self.assertEqual(caught.exception.ring, found)

    def test_least_points_and_chains(self):
        for system in SMALL:
            if ring(system) is not None:
                continue
            names = names_of(system)
            loose = [name for name in names if first_way(system, None, name, lambda total: True) is None]
            if loose:
                for call in (least_point, chains):
                    with self.assertRaises(NotBounded) as caught:
                        call(system)
                    self.assertEqual(caught.exception.name, loose[0])
                continue
            point = least_point(system)
            points = list(box(system, -9, 9))
            self.assertEqual(point, {name: min(one[name] for one in points) for name in names})
            self.assertTrue(is_point(system, point))
            told = chains(system)
            self.assertEqual(list(told), names)
            for name in names:
                self.assertEqual(told[name], first_way(system, None, name, lambda total: total == -point[name]))
            for one in points[:30]:
                self.assertEqual(is_chains(system, one, told), one == point)

    def test_is_chains_of_any_value(self):
        point = {"x": 3, "y": 0}
        self.assertIs(is_chains(EXAMPLE, point, {"x": (3, 2), "y": [3]}), True)
        for thing in (None, [], {"x": [3, 2]}, {"x": [3, 2], "y": []}, {"x": [1], "y": [3]}, {"x": [3, 2], "y": 3},
                      {"x": [3, 2], "y": [3], "z": []}, {"x": [3, True], "y": [3]}):
            self.assertIs(is_chains(EXAMPLE, point, thing), False)
        for other in (None, {"x": 4, "y": 0}, {"x": 3}, {"x": 3, "y": False}):
            self.assertIs(is_chains(EXAMPLE, other, chains(EXAMPLE)), False)

    def test_points_meet_at_lesser_and_greater_numbers(self):
        for system in SMALL[-200:]:
            points = list(box(system, -4, 4))[:25]
            for one, other in itertools.combinations(points, 2):
                for pick in (min, max):
                    self.assertTrue(is_point(system, {name: pick(one[name], other[name]) for name in one}))

    def test_least_points_are_small(self):
        for system in SMALL[-300:]:
            names = names_of(system)
            system = system + [(None, name, 0) for name in names]
            greatest = max(abs(c) for _, _, c in system)
            if ring(system) is None:
                self.assertLessEqual(max(least_point(system).values(), default=0), greatest * len(names))


class WhatFollows(unittest.TestCase):
    def test_most_example(self):
        self.assertEqual(most(EXAMPLE, "y", None), (2, [2, 0]))
        self.assertEqual(most(EXAMPLE, "x", "x"), (0, []))
        self.assertEqual(most([], None, None), (0, []))
        self.assertIsNone(most([("x", None, 0)], None, "x"))

    def test_most_errors_in_order(self):
        ringed = [("x", None, -1), (None, "x", 0)]
        for a, b in (("z", "z"), (0, "x"), ("x", True), ([], "x"), ("x", ())):
            with self.assertRaises(BadName):
                most(ringed, a, b)
        with self.assertRaises(Ringed) as caught:
            most(ringed, "x", None)
        self.assertEqual(caught.exception.ring, [0, 1])

    def test_most_and_closed(self):
        for system in SMALL:
            spots = [None] + names_of(system)
            if ring(system) is not None:
                for call in (lambda: closed(system), lambda: most(system, None, None), lambda: needless(system)):
                    with self.assertRaises(Ringed):
                        call()
                continue
            told = closed(system)
            wanted = {}
            for a, b in itertools.product(spots, repeat=2):
                found = most(system, a, b)
                way = first_way(system, a, b, lambda total: True)
                self.assertEqual(found is None, way is None)
                if found is None:
                    continue
                number, way = found
                self.assertEqual(way, first_way(system, a, b, lambda total: total == number))
                if a != b:
                    self.assertIsNone(first_ring(system + [(b, a, -number)]))
                    self.assertIsNotNone(first_ring(system + [(b, a, -number - 1)]))
                    wanted[(a, b)] = number
            self.assertEqual(told, wanted)
            self.assertEqual(list(told), sorted(told, key=lambda pair: [(name is not None, name or "") for name in pair]))

    def test_follows(self):
        for system in SMALL[::3]:
            spots = [None] + names_of(system)
            for a, b in itertools.permutations(spots, 2):
                for c in (-2, 0, 3):
                    self.judge_follows(system, (a, b, c))

    def judge_follows(self, system, row):
        a, b, c = row
        turned = system + [(b, a, -c - 1)]
        if ring(system) is not None:
            self.assertEqual(follows(system, row), ("ring", ring(system)))
            return
        way = first_way(system, a, b, lambda total: total <= c)
        if way is not None:
            self.assertEqual(follows(system, row), ("way", way))
        else:
            try:
                point = least_point(turned)
            except NotBounded as error:
                with self.assertRaises(NotBounded) as caught:
                    follows(system, row)
                self.assertEqual(caught.exception.name, error.name)
                return
            self.assertEqual(follows(system, row), ("point", point))
            self.assertFalse(point.get(a, 0) - point.get(b, 0) <= c)
        self.assertTrue(is_follows(system, row, follows(system, row)))

    def test_follows_errors(self):
        for row in (None, ("z", None, 1), ("x", "z", 1), ("x", None, True), ["x", None, 1], ("x", "x", 0)):
            with self.assertRaises(BadRow):
                follows(EXAMPLE, row)
            with self.assertRaises(BadRow):
                is_follows(EXAMPLE, row, None)

    def test_is_follows_of_any_value(self):
        row = ("x", "y", 5)
        for thing in (("way", [0, 3]), ("way", (0, 3))):
            self.assertIs(is_follows(EXAMPLE, row, thing), True)
        for thing in (None, ["way", [0, 3]], ("way", [0]), ("way", [3, 0]), ("way", None), ("ring", [0, 1]),
                      ("point", {"x": 5, "y": 0}), ("way", [0, 3], 1), ("other", [0, 3]), ("way", [False, 3])):
            self.assertIs(is_follows(EXAMPLE, row, thing), False)
        twice = EXAMPLE + [("x", None, 6)]
        self.assertIs(is_follows(twice, row, ("way", [4, 3])), False)
        self.assertIs(is_follows(twice, ("x", "y", 6), ("way", [4, 3])), True)
        self.assertIs(is_follows(EXAMPLE, row, ("way", [2, 3])), False)
        row = ("x", "y", 4)
        self.assertIs(is_follows(EXAMPLE, row, ("point", {"x": 5, "y": 0})), True)
        self.assertIs(is_follows(EXAMPLE, row, ("point", {"x": 4, "y": 0})), False)
        self.assertIs(is_follows(EXAMPLE, row, ("point", {"x": 6, "y": 0})), False)
        rows = [("x", None, -1), (None, "x", 0)]
        self.assertIs(is_follows(rows, ("x", None, -5), ("ring", [1, 0])), True)
        self.assertIs(is_follows(rows, ("x", None, -5), ("way", [0, 1, 0, 1, 0, 1, 0, 1, 0])), True)

    def test_needless(self):
        self.assertEqual(needless(EXAMPLE), (1,))
        self.assertEqual(needless([("x", None, 1), ("x", None, 1)]), (0, 1))
        self.assertEqual(needless([("x", None, 2), ("x", None, 1)]), (0,))
        for system in SMALL[::2]:
            if ring(system) is None:
                wanted = []
                for at, (a, b, c) in enumerate(system):
                    rest = system[:at] + system[at + 1:]
                    if first_way(rest, a, b, lambda total: total <= c) is not None:
                        wanted.append(at)
                self.assertEqual(needless(system), tuple(wanted))

    def test_equal_points_exactly_if_closed_is_equal(self):
        groups = {}
        for system in SMALL:
            if ring(system) is None and names_of(system) == ["x", "y"]:
                key = tuple(tuple(point.items()) for point in box(system, -7, 7))
                groups.setdefault(key, []).append(closed(system))
        seen = []
        for told in groups.values():
            self.assertTrue(all(one == told[0] for one in told))
            self.assertNotIn(told[0], seen)
            seen.append(told[0])


class Without(unittest.TestCase):
    def test_example(self):
        self.assertEqual(without(EXAMPLE, "x"), [(None, "y", 0), ("y", None, 2)])

    def test_clash_and_rows_in_order(self):
        rows = [("x", None, 1), (None, "x", -2), ("y", "x", 0), ("x", "y", -1)]
        self.assertEqual(without(rows, "x"), [(None, "y", -3), ("y", None, 1), (None, "!", -1), ("!", None, 0)])
        rows = [("a", "x", 5), ("b", None, 0), ("x", "c", 1), ("d", "x", 2), ("x", "e", 3)]
        self.assertEqual(
            without(rows, "x"), [("b", None, 0), ("a", "c", 6), ("a", "e", 8), ("d", "c", 3), ("d", "e", 5)])

    def test_the_tightest_of_equal_rows_stays(self):
        rows = [("a", "b", 3), ("a", "x", 1), ("x", "b", 1), ("c", None, 1), ("a", "x", 2), ("c", None, 1)]
        self.assertEqual(without(rows, "x"), [("c", None, 1), ("a", "b", 2)])
        rows = [("a", "b", 2), ("a", "x", 1), ("x", "b", 1)]
        self.assertEqual(without(rows, "x"), [("a", "b", 2)])

    def test_errors(self):
        for name in (None, "z", 5, [], "!"):
            with self.assertRaises(BadName):
                without(EXAMPLE, name)
        clash = [("x", None, 1), ("!", None, 0)]
        for name in ("x", "!"):
            with self.assertRaises(BadName):
                without(clash, name)
        with self.assertRaises(BadName):
            kept(clash, 5)
        for names in (None, ["x"], ("y", "x"), ("z",), ("x", "x"), (None,), (5,), ("x", [])):
            with self.assertRaises(BadNames):
                kept(EXAMPLE, names)
        just = [(f"a{at}", "x", 0) for at in range(20)] + [("x", f"b{at}", 0) for at in range(20)]
        self.assertEqual(len(without(just, "x")), 400)
        rows = [(f"a{at}", "x", 0) for at in range(30)] + [("x", f"b{at}", 0) for at in range(30)]
        for call in (lambda: without(rows, "x"), lambda: kept(rows, tuple(sorted(names_of(rows))[:-1]))):
            with self.assertRaises(TooMany) as caught:
                call()
            self.assertEqual(caught.exception.most, 400)

    def test_points_are_cut_down(self):
        for system in SMALL:
            for name in names_of(system):
                self.judge_cut(system, without(system, name), name)

    def judge_cut(self, system, left, name):
        names = [own for own in names_of(system) if own != name]
        if ("!", None, 0) in left:
            self.assertEqual(left[-2:], [(None, "!", -1), ("!", None, 0)])
            self.assertIsNotNone(ring(system))
            return
        for numbers in itertools.product(range(-3, 4), repeat=len(names)):
            point = dict(zip(names, numbers))
            found = any(keeps(system, {**point, name: number}) for number in range(-9, 10))
            self.assertEqual(keeps(left, point), found, (system, name))

    def test_kept_is_without_one_by_one(self):
        for system in SMALL[-400:]:
            names = names_of(system)
            for count in range(len(names) + 1):
                for stay in itertools.combinations(names, count):
                    rows = list(system)
                    clash = False
                    for name in names:
                        if name not in stay and name in names_of(rows):
                            rows = without(rows, name)
                            if ("!", None, 0) in rows:
                                rows = rows[:-2]
                                clash = True
                    wanted = rows + ([(None, "!", -1), ("!", None, 0)] if clash else [])
                    self.assertEqual(kept(system, stay), wanted)
                    self.assertEqual(ring(wanted) is None, ring(system) is None)

    def test_joined(self):
        self.assertEqual(joined([]), [])
        self.assertEqual(joined([EXAMPLE, (), tuple(EXAMPLE[:1])]), EXAMPLE + EXAMPLE[:1])
        for thing, at in ((None, None), (5, None), ({}, None), ([EXAMPLE, 5], 1), ((5, EXAMPLE), 0),
                          ([[], [("x", "x", 1)]], 1)):
            with self.assertRaises(BadSystems) as caught:
                joined(thing)
            self.assertEqual(caught.exception.at, at)
        self.assertEqual(len(joined([[("x", None, 1)] * 200] * 2)), 400)
        many = [("x", None, 1)] * 201
        with self.assertRaises(TooMany) as caught:
            joined([many, many])
        self.assertEqual(caught.exception.most, 400)


class Conventions(unittest.TestCase):
    def test_lists_and_tuples_are_equal_and_nothing_is_changed(self):
        rows = list(EXAMPLE)
        for call in (ring, least_point, chains, closed, needless, lambda s: without(s, "x"), lambda s: kept(s, ("y",)),
                     lambda s: most(s, "y", None), lambda s: follows(s, ("x", "y", 4)), lambda s: joined([s, s])):
            self.assertEqual(call(rows), call(tuple(rows)))
            self.assertEqual(rows, EXAMPLE)

    def test_what_is_returned_is_new(self):
        chains(EXAMPLE)["x"].append(7)
        self.assertEqual(chains(EXAMPLE), {"x": [3, 2], "y": [3]})
        joined([EXAMPLE]).append(7)
        kept(EXAMPLE, ("x", "y")).append(7)
        self.assertEqual(len(EXAMPLE), 4)


if __name__ == "__main__":
    unittest.main()
