"""Points [20] to [22]: sayings, systems of them, and their points."""

import random
import unittest

import talks
from lanesmeet.differences import is_system, needless, ring
from lanesmeet.errors import BadPoint, BadSaying, BadSystems, BadTerms, NotBounded
from lanesmeet.sayings import (
    first_point, free_names, holds, is_saying, is_within, parting_point, put_terms, reach, saying_of, systems_of)

BETWEEN = ("some", ("X",), ("and", (("row", "a", "X", -1), ("row", "X", "b", -1))))
ALWAYS = ("and", ())
NEVER = ("or", ())
NO_SAYINGS = [
    None, 5, "row", (), [], ("row", "a", "b"), ("row", "a", "a", 0), ("row", "a", "b", True), ["row", "a", "b", 0],
    ("row", "a!", "b", 0), ("row", "", "b", 0), ("row", "a" * 21, "b", 0), ("row", "X", "b", 0), ("and", []),
    ("and", (5,)), ("and",), ("or", (), ()), ("not",), ("not", None), ("not", ALWAYS, ALWAYS), ("some", (), ALWAYS),
    ("some", ("x",), ALWAYS), ("some", ("X", "X"), ALWAYS), ("some", ["X"], ALWAYS), ("some", "X", ALWAYS),
    ("some", ("A", "B", "C", "D", "E"), ALWAYS), ("all", ("X!",), ALWAYS), ("all", ("X",), ("some", ("X",), ALWAYS)),
    ("and", (("some", ("X",), ALWAYS), ("row", "X", None, 0))), ("maybe", ()), ("row", "A", "B", 0, 0),
    ("row", "a", 0, 0), ("row", None, None, 0), ("some", ("X" * 21,), ALWAYS), (5, ()), ("all", ("X",))]


def samples(count, rows, names=("a", "b"), bound=("X", "Y"), most=2, seed=0):
    for at in range(count):
        r = random.Random(1000 * seed + at)
        yield r, talks.made_saying(r, r.randint(1, rows), names[:r.randint(0, len(names))], bound, most)


class Forms(unittest.TestCase):
    def test_sayings(self):
        for thing in (ALWAYS, NEVER, BETWEEN, ("row", "a", None, 5), ("not", NEVER), ("row", "tiles n", "block 0 b", -1),
                      ("all", ("X", "Y", "Z", "A b"), ("row", "X", "Y", 0)), ("row", "_", "a" * 20, 0),
                      ("and", (("some", ("X",), ALWAYS), ("all", ("X",), ("row", "X", None, 1))))):
            self.assertIs(is_saying(thing), True)
        for thing in NO_SAYINGS:
            self.assertIs(is_saying(thing), False, thing)

    def test_every_function_asks_for_a_saying(self):
        for thing in NO_SAYINGS:
            for call in (lambda: free_names(thing), lambda: holds(thing, 5), lambda: put_terms(thing, 5),
                         lambda: systems_of(thing), lambda: reach(thing), lambda: first_point(thing),
                         lambda: is_within(thing, ALWAYS), lambda: is_within(ALWAYS, thing),
                         lambda: parting_point(thing, ALWAYS), lambda: parting_point(ALWAYS, thing)):
                with self.assertRaises(BadSaying):
                    call()

    def test_free_names(self):
        self.assertEqual(free_names(BETWEEN), ("a", "b"))
        self.assertEqual(free_names(("and", (("row", "z", None, 1), ("row", "b", "z", 1), BETWEEN))), ("a", "b", "z"))
        self.assertEqual(free_names(ALWAYS), ())


class Holding(unittest.TestCase):
    def test_words(self):
        self.assertIs(holds(ALWAYS, {}), True)
        self.assertIs(holds(NEVER, {}), False)
        self.assertIs(holds(("not", NEVER), {}), True)
        row = ("row", "a", None, 3)
        for number in (2, 3, 4):
            self.assertEqual(holds(row, {"a": number}), number <= 3)
            self.assertEqual(holds(("row", None, "a", -3), {"a": number}), number >= 3)
        self.assertIs(holds(BETWEEN, {"a": 0, "b": 2}), True)
        self.assertIs(holds(BETWEEN, {"a": 0, "b": 1}), False)
        self.assertIs(holds(("all", ("X",), ("or", (("row", "X", "a", 0), ("row", "a", "X", -1)))), {"a": 7}), True)

    def test_bad_points(self):
        for point in (None, [], {}, {"a": 1}, {"a": 1, "b": True}, {"a": 1, "b": 2, "X": 3}, {"a": 1, "b": None},
                      {"a": 1, 2: 2}):
            with self.assertRaises(BadPoint):
                holds(BETWEEN, point)

    def test_all_numbers_gone_through(self):
        for r, saying in samples(900, 5):
            if len(talks.bound_names(saying)) > 2:
                continue
            names = free_names(saying)
            systems = systems_of(saying)
            for point in talks.points_up_to(names, 2):
                if r.random() < 0.5:
                    found = holds(saying, point)
                    self.assertEqual(found, talks.goes_through(saying, point, 2), (saying, point))
                    self.assertEqual(found, any(talks.keeps(system, point) for system in systems))


class Terms(unittest.TestCase):
    def test_rows(self):
        row = ("row", "a", "b", 3)
        self.assertEqual(put_terms(row, {}), row)
        self.assertEqual(put_terms(row, {"a": ("c", 2)}), ("row", "c", "b", 1))
        self.assertEqual(put_terms(row, {"b": ("c", 2)}), ("row", "a", "c", 5))
        self.assertEqual(put_terms(row, {"a": (None, 2)}), ("row", None, "b", 1))
        self.assertEqual(put_terms(row, {"a": ("b", 3)}), ALWAYS)
        self.assertEqual(put_terms(row, {"a": ("b", 4)}), NEVER)
        self.assertEqual(put_terms(row, {"a": (None, 4), "b": (None, 1)}), ALWAYS)
        self.assertEqual(put_terms(row, {"a": ("b", 0), "b": ("a", 0)}), ("row", "b", "a", 3))
        self.assertEqual(
            put_terms(BETWEEN, {"a": ("q", 1)}),
            ("some", ("X",), ("and", (("row", "q", "X", -2), ("row", "X", "b", -1)))))

    def test_bad_terms(self):
        for terms in (None, [], {"c": ("a", 1)}, {"a": ("X", 1)}, {"a": ("!0.0", 1)}, {"a": ("a", True)}, {"a": ("a",)},
                      {"a": ["a", 1]}, {"X": ("a", 1)}, {5: ("a", 1)}, {"a": (5, 1)}, {"a": None}):
            with self.assertRaises(BadTerms):
                put_terms(BETWEEN, terms)

    def test_terms_mean_their_numbers(self):
        for r, saying in samples(300, 6, seed=1):
            names = free_names(saying)
            terms = {name: (r.choice((None, "a", "b", "c")), r.randint(-3, 3)) for name in names if r.random() < 0.7}
            put = put_terms(saying, terms)
            self.assertTrue(is_saying(put))
            for _ in range(5):
                point = {name: r.randint(-4, 4) for name in ("a", "b", "c")}
                point[None] = 0
                old = {}
                for name in names:
                    other, more = terms.get(name, (name, 0))
                    old[name] = point[other] + more
                new = {name: point[name] for name in free_names(put)}
                self.assertEqual(holds(put, new), holds(saying, old))

    def test_saying_of(self):
        self.assertEqual(saying_of([]), NEVER)
        self.assertEqual(
            saying_of([[("a", None, 1), ("b", "a", 0)], ()]),
            ("or", (("and", (("row", "a", None, 1), ("row", "b", "a", 0))), ALWAYS)))
        for thing, at in ((None, None), (5, None), ([5], 0), ([[], [("X", None, 1)]], 1), ([[("!", None, 1)]], 0),
                          ([[], [], [("a", "a", 1)]], 2)):
            with self.assertRaises(BadSystems) as caught:
                saying_of(thing)
            self.assertEqual(caught.exception.at, at)


class Systems(unittest.TestCase):
    def test_example(self):
        self.assertEqual(systems_of(BETWEEN), [[("a", "b", -2)]])
        self.assertEqual(reach(BETWEEN), 8)
        self.assertEqual(systems_of(ALWAYS), [[]])
        self.assertEqual(systems_of(NEVER), [])

    def test_reach(self):
        self.assertEqual(reach(ALWAYS), 0)
        self.assertEqual(reach(("and", (ALWAYS, ("row", "a", None, 0)))), 1)
        self.assertEqual(reach(("row", "a", None, -7)), 8)
        self.assertEqual(reach(("and", (("row", "a", "b", -7), ("row", "a", "b", 9)))), 20)
        twice = ("and", (BETWEEN, BETWEEN, ("all", ("Y", "Z"), ALWAYS)))
        self.assertEqual(reach(twice), 2 * 2 * 2 ** 4)

    def test_systems_are_as_told(self):
        for r, saying in samples(700, 10, ("a", "b", "c"), ("X", "Y", "Z"), 4, seed=2):
            names = free_names(saying)
            systems = systems_of(saying)
            self.assertIsInstance(systems, list)
            for system in systems:
                self.assertTrue(is_system(system))
                self.assertIsInstance(system, list)
                self.assertLessEqual({name for row in system for name in row[:2]}, set(names) | {None})
                self.assertIsNone(ring(system))
                self.assertEqual(needless(system), ())
            for at, one in enumerate(systems):
                for other in systems[:at] + systems[at + 1:]:
                    self.assertFalse(is_within(saying_of([one]), saying_of([other])))
            for _ in range(20):
                point = {name: r.randint(-6, 6) for name in names}
                self.assertEqual(holds(saying, point), any(talks.keeps(system, point) for system in systems))

    def test_holds_somewhere_within_reach(self):
        for r, saying in samples(150, 4, ("a",), ("X", "Y"), 2, seed=3):
            far = reach(saying)
            found = any(holds(saying, point) for point in talks.points_up_to(free_names(saying), far))
            self.assertEqual(found, systems_of(saying) != [])


class Points(unittest.TestCase):
    def test_first_points(self):
        low = ("and", (("row", None, "a", -2), ("row", None, "b", 0), ("row", "a", "b", 1)))
        self.assertEqual(first_point(low), {"a": 2, "b": 1})
        self.assertEqual(list(first_point(("and", (("row", None, "z", 0), ("row", None, "b", 0))))), ["b", "z"])
        self.assertEqual(first_point(ALWAYS), {})
        self.assertIsNone(first_point(NEVER))
        self.assertIsNone(first_point(("and", (("row", "a", None, -1), ("row", None, "a", 0)))))
        two = ("and", (("or", (("row", None, "a", -3), ("row", None, "b", -3))),
                       ("row", None, "a", 0), ("row", None, "b", 0)))
        self.assertEqual(first_point(two), {"a": 0, "b": 3})

    def test_not_bounded(self):
        for saying, name in ((("row", "a", None, 3), "a"), (("row", "b", "a", 3), "a"), (BETWEEN, "a"),
                             (("and", (("row", None, "a", 0), ("row", "b", None, 0))), "b"),
                             (("or", (("row", None, "a", 0), ("and", (("row", None, "a", 0), ("row", None, "b", 0))))), "b")):
            with self.assertRaises(NotBounded) as caught:
                first_point(saying)
            self.assertEqual(caught.exception.name, name)

    def test_first_points_gone_through(self):
        floor = tuple(("row", None, name, r) for name, r in (("a", 1), ("b", 0)))
        for _, saying in samples(300, 6, seed=4):
            saying = ("and", (saying,) + floor)
            found = first_point(saying)
            points = [point for point in talks.points_up_to(("a", "b"), 9) if holds(saying, point)]
            if found is None:
                self.assertEqual(points, [])
            elif max(found.values()) <= 9:
                self.assertEqual(found, min(points, key=lambda point: (sum(point.values()), list(point.values()))))

    def test_within_and_parting_points(self):
        for r, one in samples(500, 6, seed=5):
            other = talks.made_saying(r, r.randint(1, 5), ("a", "b"), ("Y", "Z"), 2)
            names = sorted(set(free_names(one)) | set(free_names(other)))
            unlike = []
            for point in talks.points_up_to(names, 4):
                first = holds(one, {name: point[name] for name in free_names(one)})
                second = holds(other, {name: point[name] for name in free_names(other)})
                if first and not second:
                    self.assertIs(is_within(one, other), False)
                if first != second:
                    unlike.append(point)
            found = parting_point(one, other)
            if unlike:
                self.assertIsNotNone(found)
            if found is not None:
                self.assertEqual(list(found), names)
                first = holds(one, {name: found[name] for name in free_names(one)})
                second = holds(other, {name: found[name] for name in free_names(other)})
                self.assertNotEqual(first, second)
            self.assertEqual(found is None, is_within(one, other) and is_within(other, one))

    def test_within_by_hand(self):
        self.assertIs(is_within(BETWEEN, ("row", "a", "b", -2)), True)
        self.assertIs(is_within(("row", "a", "b", -2), BETWEEN), True)
        self.assertIs(is_within(("row", "a", "b", -1), BETWEEN), False)
        self.assertIsNone(parting_point(BETWEEN, ("row", "a", "b", -2)))
        self.assertEqual(set(parting_point(ALWAYS, ("row", "q", "a", 0))), {"a", "q"})


class Conventions(unittest.TestCase):
    def test_nothing_is_changed_and_results_are_new(self):
        systems = [[("a", None, 1)], (("b", None, 2),)]
        saying_of(systems)
        self.assertEqual(systems, [[("a", None, 1)], (("b", None, 2),)])
        found = systems_of(BETWEEN)
        found[0].append(5)
        found.append(5)
        self.assertEqual(systems_of(BETWEEN), [[("a", "b", -2)]])
        terms = {"a": ("b", 1)}
        put_terms(BETWEEN, terms)
        self.assertEqual(terms, {"a": ("b", 1)})

    def test_order_of_keys_has_no_meaning(self):
        self.assertEqual(holds(BETWEEN, {"b": 2, "a": 0}), holds(BETWEEN, {"a": 0, "b": 2}))


if __name__ == "__main__":
    unittest.main()
