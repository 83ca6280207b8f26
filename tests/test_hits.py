"""Point [81]: lots of gaps, and what hits them."""

import itertools
import random
import unittest

from lanesmeet.errors import BadLots, BadMany, BadNumber
from lanesmeet.hits import hit_tree, is_hit_tree, least_hits


def hits(lots, gaps):
    return all(set(lot) & set(gaps) for lot in lots)


def first_hits(many, lots):
    """The first of all tuples of gaps that hit the lots, by going through them."""
    for count in range(many + 1):
        for gaps in itertools.combinations(range(many), count):
            if hits(lots, gaps):
                return gaps
    return None


def is_plain_tree(lots, taken, number, tree):
    """Whether a tree shows that no number further gaps hit the lots."""
    lot = lots[tree[1]]
    if set(lot) & taken:
        return False
    if number == 0:
        return tree == ("end", tree[1])
    return (tree == ("part", tree[1], tree[2]) and list(tree[2]) == list(lot)
            and all(is_plain_tree(lots, taken | {gap}, number - 1, tree[2][gap]) for gap in lot))


def made_lots(r, many, count, empty=0.02):
    return [tuple(sorted(r.sample(range(many), r.randint(0 if r.random() < empty else 1, many)))) for _ in range(count)]


class Hits(unittest.TestCase):
    def test_errors_in_order(self):
        for many in (None, 0, 17, -1, True, "3", (3,), [1], {}):
            for call in (lambda: least_hits(many, None), lambda: hit_tree(many, None, None),
                         lambda: is_hit_tree(many, None, None, None)):
                with self.assertRaises(BadMany):
                    call()
        for lots, at in ((None, None), (5, None), ({}, None), ("", None), ([(0,)] * 401, None), ([None], 0), ([[0]], 0),
                         ([(0,), (3,)], 1), ([(1, 0)], 0), ([(0,), (1, 1)], 1), ([(0,), (True,), 5], 1), ([(-1,)], 0),
                         ([(0,), ("0",)], 1), ([()] * 3 + [0], 3), (((0,), [1]), 1)):
            for call in (lambda: least_hits(3, lots), lambda: hit_tree(3, lots, None),
                         lambda: is_hit_tree(3, lots, None, None)):
                with self.assertRaises(BadLots) as caught:
                    call()
                self.assertEqual(caught.exception.at, at)
        for number in (None, -1, 17, True, False, "1", (1,)):
            for call in (lambda: hit_tree(3, [(0,)], number), lambda: is_hit_tree(3, [(0,)], number, None)):
                with self.assertRaises(BadNumber):
                    call()
        self.assertEqual(least_hits(16, [(0, 15)] * 400), (0,))
        self.assertEqual(least_hits(1, ((0,),)), (0,))

    def test_by_hand(self):
        self.assertEqual(least_hits(3, []), ())
        self.assertIsNone(least_hits(3, [(0,), ()]))
        self.assertEqual(least_hits(3, [(0, 1), (1, 2), (0, 2)]), (0, 1))
        self.assertEqual(least_hits(4, [(2, 3), (1, 3), (0, 3)]), (3,))
        self.assertEqual(least_hits(4, [(1, 3), (2, 3), (0, 1, 2)]), (0, 3))
        self.assertIsNone(hit_tree(3, [], 0))
        self.assertEqual(hit_tree(3, [(1, 2)], 0), ("end", 0))
        self.assertIsNone(hit_tree(3, [(1, 2)], 1))
        self.assertIsNone(hit_tree(3, [(1, 2)], 16))
        self.assertEqual(hit_tree(3, [(1,), (2,)], 1), ("part", 0, {1: ("end", 1)}))

    def test_a_lot_without_gaps(self):
        self.assertEqual(hit_tree(3, [()], 0), ("end", 0))
        self.assertEqual(hit_tree(3, [()], 4), ("part", 0, {}))
        self.assertIs(is_hit_tree(3, [(1,), ()], 16, ("part", 1, {})), True)
        self.assertIs(is_hit_tree(3, [(1,), ()], 2, ("part", 0, {1: ("part", 1, {})})), True)
        self.assertIs(is_hit_tree(3, [(1,), ()], 0, ("end", 1)), True)
        self.assertIs(is_hit_tree(3, [(1,), ()], 1, ("part", 0, {})), False)

    def test_the_first_of_all_that_hit(self):
        r = random.Random(81)
        none = 0
        for _ in range(3000):
            many = r.randint(1, 7)
            lots = made_lots(r, many, r.randint(0, 9))
            wanted = first_hits(many, lots)
            none += wanted is None
            self.assertEqual(least_hits(many, lots), wanted, (many, lots))
            self.assertEqual(least_hits(many, tuple(lots)), wanted)
        self.assertGreater(none, 50)

    def test_a_tree_or_gaps_never_both(self):
        r = random.Random(82)
        told = [0, 0]
        for _ in range(1500):
            many = r.randint(1, 6)
            lots = made_lots(r, many, r.randint(0, 8))
            wanted = first_hits(many, lots)
            for number in range(6):
                tree = hit_tree(many, lots, number)
                self.assertEqual(tree is None, wanted is not None and len(wanted) <= number)
                told[tree is None] += 1
                if tree is not None:
                    self.assertTrue(is_plain_tree(lots, set(), number, tree))
                    self.assertIs(is_hit_tree(many, lots, number, tree), True)
                    self.assertIs(is_hit_tree(many, lots, number + 1, tree), number > 0 and tree[2] == {})
        self.assertGreater(min(told), 1000)

    def test_sixteen_gaps(self):
        pairs = list(itertools.combinations(range(16), 2))
        self.assertEqual(least_hits(16, pairs), tuple(range(15)))
        stretches = [tuple(range(low, low + 4)) for low in range(13)]
        self.assertEqual(least_hits(16, stretches), (0, 4, 8, 12))
        tree = hit_tree(16, stretches, 3)
        self.assertIs(is_hit_tree(16, stretches, 3, tree), True)
        self.assertIsNone(hit_tree(16, stretches, 4))

    def test_of_stretches_as_many_are_apart_as_hits_are_wanted(self):
        r = random.Random(83)
        for _ in range(300):
            many = r.randint(1, 8)
            lots = []
            for _ in range(r.randint(1, 6)):
                low = r.randrange(many)
                lots.append(tuple(range(low, r.randint(low, many - 1) + 1)))
            apart = max(len(own) for count in range(len(lots) + 1) for own in itertools.combinations(lots, count)
                        if all(not set(a) & set(b) for a, b in itertools.combinations(own, 2)))
            self.assertEqual(len(least_hits(many, lots)), apart)

    def test_is_hit_tree_of_any_value(self):
        lots = [(0, 1), (2,), (1, 2)]
        good = ("part", 0, {0: ("end", 1), 1: ("end", 1)})
        self.assertIs(is_hit_tree(3, lots, 1, good), True)
        self.assertIs(is_hit_tree(3, lots, 1, ("part", 0, {1: ("end", 1), 0: ("end", 2)})), True)
        self.assertIs(is_hit_tree(3, [(1, 2), (0,)], 1, ("part", 0, {1: ("end", 1), 2: ("end", 1)})), True)
        for thing in (
                None, 5, "part", (), [], ("end", 0), ("end", 1), ("part",), ("part", 0), list(good), good + (1,),
                ("part", 0, {}), ("part", 3, {}), ("part", -1, {1: ("end", 0), 2: ("end", 0)}), ("part", False, good[2]),
                ("part", True, {2: ("end", 0)}), ("end", 0, good[2]), (None, 0, good[2]), ("part", 0, list(good[2].items())),
                ("part", 0, {0: ("end", 1)}), ("part", 0, {0: ("end", 1), 1: ("end", 1), 2: ("end", 0)}),
                ("part", 0, {0: ("end", 1), True: ("end", 1)}), ("part", 0, {False: ("end", 1), 1: ("end", 1)}),
                ("part", 0, {0: ("end", 1), 1: ("end", 2)}), ("part", 0, {0: ("end", 0), 1: ("end", 1)}),
                ("part", 0, {0: ("end", True), 1: ("end", 1)}), ("part", 0, {0: ["end", 1], 1: ("end", 1)}),
                ("part", 0, {0: None, 1: ("end", 1)}), ("part", 0, {0: ("part", 1, {}), 1: ("end", 1)}),
                ("part", 0, {0: ("end", 3), 1: ("end", 1)}), ("part", 1, {2: ("end", 2)}), {0: good}):
            self.assertIs(is_hit_tree(3, lots, 1, thing), False, thing)
        self.assertIs(is_hit_tree(3, [], 0, ("end", 0)), False)
        self.assertIs(is_hit_tree(3, lots, 0, ("end", 2)), True)
        self.assertIs(is_hit_tree(3, lots, 0, ["end", 2]), False)
        self.assertIs(is_hit_tree(3, lots, 0, ("end", 2, {})), False)

    def test_what_is_passed_is_not_changed(self):
        lots = [(0, 1), (1, 2), (0, 2)]
        least_hits(3, lots)
        tree = hit_tree(3, lots, 1)
        tree[2].clear()
        self.assertEqual(lots, [(0, 1), (1, 2), (0, 2)])
        self.assertTrue(is_hit_tree(3, lots, 1, hit_tree(3, lots, 1)))


if __name__ == "__main__":
    unittest.main()
