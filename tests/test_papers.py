"""Point [23]: trees that show that claims cannot all be kept."""

import itertools
import random
import unittest

import talks
from lanesmeet.errors import BadClaims, BadPoint, BadSaying
from lanesmeet.papers import is_tree, nowhere, point_paper, within_paper
from lanesmeet.sayings import free_names, holds, is_within, systems_of

BETWEEN = ("some", ("X",), ("and", (("row", "a", "X", -1), ("row", "X", "b", -1))))
NEAR = ("and", (BETWEEN, ("row", "b", "a", 1)))
BY_HAND = ("open", 0, ("open", 1, ("open", 3, ("ring", (("a", "!1.0", -1), ("!1.0", "b", -1), ("b", "a", 1))))))
ALWAYS = ("and", ())
NEVER = ("or", ())


def point_claims(saying, point):
    claims = [(saying, False)]
    for name in sorted(point):
        claims.append((("row", name, None, point[name]), True))
        claims.append((("row", None, name, -point[name]), True))
    return claims


def depth(thing):
    return 1 + max([depth(item) for item in thing], default=0) if isinstance(thing, tuple) else 0


class Judging(unittest.TestCase):
    def test_example(self):
        self.assertIs(is_tree([(NEAR, True)], BY_HAND), True)
        self.assertIs(is_tree(((NEAR, True),), BY_HAND), True)
        self.assertIs(is_tree([(NEAR, True)], nowhere(NEAR)), True)
        self.assertIs(is_tree([(("and", (BETWEEN, ("row", "b", "a", 2))), True)], BY_HAND), False)

    def test_bad_claims(self):
        for thing in (None, 5, {}, [NEAR], [(NEAR, 1)], [(NEAR, None)], [[NEAR, True]], [(5, True)],
                      [(("row", "!0.0", None, 0), True)], [(NEAR, True, True)], [(NEAR, True), None]):
            with self.assertRaises(BadClaims):
                is_tree(thing, BY_HAND)

    def test_rings(self):
        claims = [(("row", "a", "b", 2), True), (("row", "a", "b", 3), False), (("row", None, "a", 0), True)]
        for tree, wanted in (
                (("ring", (("a", "b", 2), ("b", "a", -4))), True), (("ring", (("b", "a", -4), ("a", "b", 2))), True),
                (("ring", (("a", "b", 2), ("b", "a", -3))), False), (("ring", (("a", "b", 3), ("b", "a", -4))), False),
                (("ring", ()), False), (("ring", [("a", "b", 2), ("b", "a", -4)]), False), (("ring",), False),
                (("ring", (["a", "b", 2], ("b", "a", -4))), False), (["ring", (("a", "b", 2), ("b", "a", -4))], False),
                (("ring", (("a", "b", 2), ("b", "a", -4), (None, "a", 0))), False), (("ring", (("b", "a", -4),)), False),
                (("ring", (("a", "b", 2), ("b", "a", -4)), 1), False), (("ring", (5,)), False)):
            self.assertIs(is_tree(claims, tree), wanted, tree)
        claims = [(("row", "a", None, 1), True), (("row", None, "a", -2), True)]
        self.assertIs(is_tree(claims, ("ring", (("a", None, 1), (None, "a", -2)))), True)
        self.assertIs(is_tree(claims, ("ring", (("a", None, True), (None, "a", -2)))), False)
        self.assertIs(is_tree([(("row", "a", "b", 1), True), (("row", "b", "a", -1), True)],
                              ("ring", (("a", "b", 1), ("b", "a", -1)))), False)

    def test_opening(self):
        ring = ("ring", (("a", None, 0), (None, "a", -1)))
        low = ("row", "a", None, 0)
        high = ("row", None, "a", -1)
        self.assertIs(is_tree([(("and", (low, high)), True)], ("open", 0, ring)), True)
        self.assertIs(is_tree([(("or", (("not", low), ("not", high))), False)],
                              ("open", 0, ("open", 1, ("open", 2, ring)))), True)
        self.assertIs(is_tree([(("or", (low, high)), True)], ("open", 0, ring)), False)
        self.assertIs(is_tree([(("and", (low, high)), False)], ("open", 0, ring)), False)
        self.assertIs(is_tree([(low, True), (high, True)], ("open", 0, ring)), False)
        for tree in (("open", 1, ring), ("open", -1, ring), ("open", False, ring), ("open", 0), ("open", 0, ring, ring),
                     ("open", None, ring)):
            self.assertIs(is_tree([(("and", (low, high)), True)], tree), False)
        some = ("some", ("X", "Y"), ("and", (("row", "X", "Y", -1), ("row", "Y", "X", 0))))
        ring = ("ring", (("!0.0", "!0.1", -1), ("!0.1", "!0.0", 0)))
        self.assertIs(is_tree([(some, True)], ("open", 0, ("open", 1, ring))), True)
        self.assertIs(is_tree([(some, False)], ("open", 0, ("open", 1, ring))), False)
        every = ("all", ("X",), ("or", (("row", "X", None, 3), ("row", None, "X", -3))))
        ring = ("ring", ((None, "!0.0", -4), ("!0.0", None, 2)))
        self.assertIs(is_tree([(every, False)], ("open", 0, ("open", 1, ring))), True)
        self.assertIs(is_tree([(every, True)], ("open", 0, ("open", 1, ring))), False)

    def test_parting(self):
        self.assertIs(is_tree([(NEVER, True)], ("part", 0, ())), True)
        self.assertIs(is_tree([(ALWAYS, False)], ("part", 0, ())), True)
        self.assertIs(is_tree([(ALWAYS, True)], ("part", 0, ())), False)
        self.assertIs(is_tree([(NEVER, False)], ("part", 0, ())), False)
        low = ("row", "a", None, 0)
        claims = [(("or", (low, ("row", "b", None, 0))), True), (("row", None, "a", -1), True),
                  (("row", None, "b", -1), True)]
        trees = (("ring", (("a", None, 0), (None, "a", -1))), ("ring", (("b", None, 0), (None, "b", -1))))
        self.assertIs(is_tree(claims, ("part", 0, trees)), True)
        for tree in (("part", 0, trees[:1]), ("part", 0, trees + trees[:1]), ("part", 0, trees[::-1]),
                     ("part", 0, list(trees)), ("part", 1, trees), ("part", 3, trees), ("part", 0, trees, 1)):
            self.assertIs(is_tree(claims, tree), False)

    def test_terms(self):
        every = ("all", ("X",), ("row", "X", "a", 3))
        ring = ("ring", ((None, "a", 1), ("a", None, 5)))
        claims = [(every, True), (("row", "a", None, -2), True)]
        ring = ("ring", ((None, "a", 1), ("a", None, -2)))
        self.assertIs(is_tree(claims, ("at", 0, ((None, 2),), ring)), True)
        self.assertIs(is_tree(claims, ("at", 0, (("a", 4),), ("part", 2, ()))), True)
        self.assertIs(is_tree(claims, ("at", 0, (("a", 3),), ("part", 2, ()))), False)
        for term in ((None, True), ("q", 4), ("X", 4), ("!0.0", 4), ["a", 4], ("a",), None):
            self.assertIs(is_tree(claims, ("at", 0, (term,), ("part", 2, ()))), False)
        for tree in (("at", 0, (("a", 4), ("a", 4)), ("part", 2, ())), ("at", 0, [("a", 4)], ("part", 2, ())),
                     ("at", 1, (("a", 4),), ("part", 2, ())), ("at", 0, (("a", 4),)), ("at", 0, (), ("part", 2, ()))):
            self.assertIs(is_tree(claims, tree), False)
        # A number is none if it is a bool, and a name must be in the list, even if the rest would add up.
        low = [(every, True), (("row", "a", None, -3), True)]
        ring = ("ring", ((None, "a", 2), ("a", None, -3)))
        self.assertIs(is_tree(low, ("at", 0, ((None, 1),), ring)), True)
        self.assertIs(is_tree(low, ("at", 0, ((None, True),), ring)), False)
        self.assertIs(is_tree(low, ("ask", 0, ((None, 1),), ring)), False)
        both = [(("all", ("X",), ("row", "X", None, 0)), True), (("all", ("X",), ("row", None, "X", -1)), True)]
        ring = ("ring", (("q", None, 0), (None, "q", -1)))
        tree = ("at", 0, (("q", 0),), ("at", 1, (("q", 0),), ring))
        self.assertIs(is_tree(both, tree), False)
        self.assertIs(is_tree(both + [(("row", "q", "p", 0), True)], tree), True)
        some = ("some", ("X",), ("row", "a", "X", 3))
        self.assertIs(is_tree([(some, False)], ("at", 0, (("a", 0),), ("part", 1, ()))), True)
        self.assertIs(is_tree([(some, True)], ("at", 0, (("a", 0),), ("part", 1, ()))), False)
        made = [(("some", ("X",), ("row", "X", None, 0)), True), (("all", ("Y",), ("row", "Y", "a", -1)), True)]
        tree = ("open", 0, ("at", 1, (("!0.0", 5),), ("ring", (("!0.0", "a", -6),))))
        self.assertIs(is_tree(made, tree), False)
        self.assertIs(is_tree(made, ("at", 1, (("a", 0),), ("part", 2, ()))), True)

    def test_splits(self):
        claims = [(("or", (("row", "a", None, 0), ("row", "b", None, 0))), True),
                  (("row", None, "a", -1), True), (("row", None, "b", -1), True)]
        inner = ("part", 0, (("ring", (("a", None, 0), (None, "a", -1))), ("ring", (("b", None, 0), (None, "b", -1)))))
        self.assertIs(is_tree(claims, ("split", ("a", "b", 0), inner, inner)), True)
        first = ("ring", (("a", None, 5), (None, "a", -6)))
        claims = [(("row", None, "a", -3), True), (("row", "a", None, 2), True)]
        self.assertIs(is_tree(claims, ("split", ("a", None, 1), ("ring", (("a", None, 1), (None, "a", -3))),
                                       ("ring", (("a", None, 2), (None, "a", -3))))), True)
        self.assertIs(is_tree(claims, ("split", ("a", None, 1), ("ring", (("a", None, 2), (None, "a", -2))),
                                       ("ring", (("a", None, 2), (None, "a", -2))))), False)
        self.assertIs(is_tree(claims, ("split", ("a", None, 1), ("ring", (("a", None, 2), (None, "a", -3))),
                                       ("ring", ((None, "a", -2), ("a", None, 1))))), False)
        good = ("ring", (("a", None, 2), (None, "a", -3)))
        bad = ("ring", (("a", None, 2), (None, "a", -2)))
        self.assertIs(is_tree(claims, ("split", ("a", None, 1), good, good)), True)
        for tree in (("split", ("a", None, 1), bad, good), ("split", ("a", None, 1), good, bad),
                     ("split", ("a", "c", 1), good, good), ("split", (None, "c", 1), good, good),
                     ("split", ("c", None, 1), good, good), ("split", ("a", "a", 1), good, good),
                     ("split", ["a", None, 1], good, good), ("split", ("a", None, True), good, good),
                     ("split", ("a", None, 1), good), ("split", ("a", None, 1), good, good, good),
                     ("split", None, good, good), ("split", ("a", None, 1), good, first)):
            self.assertIs(is_tree(claims, tree), False)

    def test_splits_tell_a_row_or_its_contrary(self):
        other = ("row", "b", None, 0)
        claims = [(("or", (("row", "a", None, 1), other)), True), (("or", (("row", None, "a", -2), other)), True),
                  (("row", None, "b", -1), True)]
        near = ("ring", (("a", None, 1), (None, "a", -2)))
        far = ("ring", (("b", None, 0), (None, "b", -1)))
        first, second = ("part", 1, (near, far)), ("part", 0, (near, far))
        self.assertIs(is_tree(claims, ("split", ("a", None, 1), first, second)), True)
        self.assertIs(is_tree(claims, ("split", ("a", None, 1), second, first)), False)
        self.assertIs(is_tree(claims, ("split", (None, "a", -2), second, first)), True)

    def test_of_any_value(self):
        for thing in (None, 5, "ring", (), [], {}, ("other", 0, BY_HAND), (("ring",),), True, ("open",), ("part", 0),
                      ("at",), ("split",), (5, 0, 0)):
            self.assertIs(is_tree([(NEAR, True)], thing), False)
            self.assertIs(is_tree([], thing), False)

    def test_a_tree_of_another_claim_is_none(self):
        for r in map(random.Random, range(150)):
            one = talks.made_saying(r, 5, ("a", "b"), ("X",), 2)
            tree = nowhere(("and", (one, ("not", one))))
            self.assertIsNotNone(tree)
            other = talks.made_saying(r, 5, ("a", "b"), ("X",), 2)
            if systems_of(other):
                self.assertIs(is_tree([(other, True)], tree), False)


class Papers(unittest.TestCase):
    def test_errors(self):
        for thing in (None, ("and",), ("row", "X", None, 0)):
            for call in (lambda: nowhere(thing), lambda: within_paper(thing, ALWAYS), lambda: within_paper(ALWAYS, thing),
                         lambda: point_paper(thing, 5)):
                with self.assertRaises(BadSaying):
                    call()
        for point in (None, {}, {"a": 1}, {"a": 1, "b": True}, {"a": 1, "b": 1, "c": 1}):
            with self.assertRaises(BadPoint):
                point_paper(BETWEEN, point)

    def test_a_point_or_a_tree_never_both(self):
        count = 0
        for r in map(random.Random, range(1200)):
            saying = talks.made_saying(r, r.randint(1, 10), ("a", "b", "c")[:r.randint(0, 3)], ("X", "Y", "Z"), 3)
            for one in (saying, ("not", saying), ("and", (saying, ("not", saying)))):
                tree = nowhere(one)
                self.assertEqual(tree is None, systems_of(one) != [])
                if tree is not None:
                    count += 1
                    self.assertIs(is_tree([(one, True)], tree), True, one)
                    self.assertLessEqual(depth(tree), 100)
            names = free_names(saying)
            point = {name: r.randint(-4, 4) for name in names}
            tree = point_paper(saying, point)
            self.assertEqual(tree is not None, holds(saying, point))
            if tree is not None:
                self.assertIs(is_tree(point_claims(saying, point), tree), True)
                self.assertIs(is_tree([(saying, True)] + point_claims(saying, point)[1:], tree), False)
        self.assertGreater(count, 1200)

    def test_within(self):
        for r in map(random.Random, range(500)):
            one = talks.made_saying(r, r.randint(1, 6), ("a", "b"), ("X",), 2)
            other = talks.made_saying(r, r.randint(1, 4), ("a", "b"), ("Y",), 3)
            for first, second in ((one, other), (("and", (one, other)), one), (one, ("or", (other, one)))):
                tree = within_paper(first, second)
                self.assertEqual(tree is not None, is_within(first, second))
                if tree is not None:
                    self.assertIs(is_tree([(first, True), (second, False)], tree), True)

    def test_small_sayings_one_by_one(self):
        rows = [("row", a, b, c) for a, b in itertools.permutations((None, "a", "X"), 2) for c in (-1, 0)]
        for word, first, second in itertools.product(("some", "all"), rows, rows):
            for both in (("and", (first, second)), ("or", (first, second)), ("and", (first, ("not", second)))):
                saying = (word, ("X",), both)
                tree = nowhere(saying)
                found = [point for point in talks.points_up_to(free_names(saying), 3) if holds(saying, point)]
                self.assertEqual(tree is None, found != [], saying)
                if tree is not None:
                    self.assertTrue(is_tree([(saying, True)], tree))
                for point in talks.points_up_to(free_names(saying), 1):
                    paper = point_paper(saying, point)
                    self.assertEqual(paper is not None, talks.goes_through(saying, point, 1))
                    if paper is not None:
                        self.assertTrue(is_tree(point_claims(saying, point), paper))


if __name__ == "__main__":
    unittest.main()
