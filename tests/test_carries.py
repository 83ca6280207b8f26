"""Point [131]: carries of nests, and free loops."""

import unittest

import nestery
from nestery import EXAMPLE, Crossing, at, bare, carry_of, nest_of, tiles, turn
from samples import NO_KERNELS, all_sizes_up_to
from lanesmeet.carries import carries, carry_at, carry_region, free_loops
from lanesmeet.errors import BadCarry, BadNest, TooMany
from lanesmeet.nests import outcome_along, pieces_of

LET = ("let", "x", "f", ())


def all_triples(nest):
    """All carries by their definition."""
    for one, statement in enumerate(nest.statements):
        for other, mate in enumerate(nest.statements):
            words = (statement[0], mate[0])
            if not set(words) <= {"take", "put", "add"} or not ("put" in words or set(words) == {"take", "add"}):
                continue
            array = statement[2 if words[0] == "take" else 1][0]
            if array != mate[2 if words[1] == "take" else 1][0]:
                continue
            first = [point for point, side in nest.around(one) if side is None]
            common = [point for point, side in nest.around(other) if side is None and point in first]
            for level in range(len(common) + (one < other)):
                yield one, other, level


class Carries(unittest.TestCase):
    def test_example(self):
        self.assertEqual(carries(EXAMPLE), ((3, 1, 0), (3, 5, 0)))
        self.assertEqual(free_loops(EXAMPLE), (4,))
        self.assertEqual(carry_region(EXAMPLE, (3, 1, 0)).least(), {"n": (3, 0)})
        for tiles_ in range(6):
            self.assertEqual({"n": (tiles_, 0)} in carry_region(EXAMPLE, (3, 1, 0)), tiles_ >= 3)
            self.assertEqual({"n": (tiles_, 0)} in carry_region(EXAMPLE, (3, 5, 0)), tiles_ >= 2)
        self.assertIsNone(carry_at(EXAMPLE, (1, 3, 0)))

    def test_errors_in_order(self):
        for thing in NO_KERNELS:
            for one in (carries, free_loops):
                with self.assertRaises(BadNest):
                    one(thing)
            for one in (carry_at, carry_region):
                with self.assertRaises(BadNest):
                    one(thing, None)
        for carry in (None, 5, [], (3, 1), [3, 1, 0], (3, 1, 0, 0), (3, 1, 2), (3, 1, -1), (3, 1, 1), (3, 1, False),
                      (3, True, 0), (1, 5, 0), (1, 1, 0), (2, 3, 0), (0, 3, 0), (3, 6, 0), (3, 3, 1), (3, 7, 0),
                      (9, 3, 0), (5, 3, 0, 1), ("3", 1, 0), (3, 5, 1), (5, 3, 0)):
            for one in (carry_at, carry_region):
                with self.assertRaises(BadCarry, msg=carry):
                    one(EXAMPLE, carry)

    def test_one_point_with_itself(self):
        nest = nest_of("n", (("a", "n"),), (("long", "i", bare(0), tiles("n"), (LET, ("put", at("a", bare(0)), "x"))),))
        self.assertEqual(carries(nest), ((2, 2, 0),))
        self.assertEqual(free_loops(nest), ())
        adds = nest_of("n", (("a", "n"),), (("long", "i", bare(0), tiles("n"), (LET, ("add", at("a", bare(0)), "x"))),))
        self.assertEqual(carries(adds), ())
        self.assertEqual(free_loops(adds), (0,))
        with self.assertRaises(BadCarry):
            carry_at(adds, (2, 2, 0))

    def test_sides_of_one_if_are_never_there_together(self):
        guard = ("order", (turn("i"), ("is", 0)), (bare(1), ("is", 0)))
        put = ("put", at("a", turn("i")), "x")
        nest = nest_of("n", (("a", "n"),), (("long", "i", bare(0), tiles("n"), (("if", guard, (LET, put), (LET, put)),)),))
        self.assertEqual(carries(nest), ())
        self.assertIsNone(carry_at(nest, (3, 5, 1)))

    def test_too_many(self):
        nest = nestery.wide_nest()
        self.assertEqual(len(pieces_of(nest)), 1)
        put = pieces_of(nest)[0]
        for one in (carries, free_loops, lambda nest: carry_at(nest, (put, put, 0)),
                    lambda nest: carry_region(nest, (put, put, 0))):
            with self.assertRaises(TooMany) as caught:
                one(nest)
            self.assertEqual(caught.exception.most, 20000)
        with self.assertRaises(BadCarry):
            carry_at(nest, (put, put, 1))

    def test_gone_through(self):
        for seed in range(70):
            nest = nestery.made_nest(seed)
            found = carries(nest)
            self.assertEqual(list(found), sorted(found))
            came = {}
            sizes_list = list(all_sizes_up_to(nest, 3 if len(nest.sizes) == 1 else 2))
            for at_, sizes in enumerate(sizes_list):
                for one, other in Crossing(nest, sizes).pairs():
                    came.setdefault(carry_of(nest, one, other), set()).add(at_)
            known = list(all_triples(nest))
            self.assertLessEqual(set(came), set(known))
            for carry in known:
                region = carry_region(nest, carry)
                for at_, sizes in enumerate(sizes_list):
                    self.assertEqual(sizes in region, at_ in came.get(carry, ()), (seed, carry, sizes))
                self.check_example(nest, carry, carry in found)
                self.assertEqual(bool(region), carry in found)
            self.assertLessEqual(set(found), set(known))

    def check_example(self, nest, carry, comes):
        """That what carry_at tells is what the carry says."""
        told = carry_at(nest, carry)
        self.assertEqual(told is not None, comes)
        if comes:
            sizes, one, other = told
            crossing = Crossing(nest, sizes)
            self.assertLess(crossing.deeds.index(one), crossing.deeds.index(other))
            self.assertTrue(crossing.cross(one, other))
            self.assertEqual(carry_of(nest, one, other), carry)

    def test_free_loops(self):
        """A loop is free exactly if its own turns may be done in any order, nothing else being exchanged."""
        free = 0
        for seed in range(60):
            nest = nestery.made_nest(seed)
            loops = [point for point, statement in enumerate(nest.statements) if statement[0] == "long"]
            found = free_loops(nest)
            self.assertEqual(list(found), sorted(found))
            for point in loops:
                wanted = True
                for sizes in all_sizes_up_to(nest, 4 if len(nest.sizes) == 1 else 3):
                    wanted = wanted and self.is_free_at(nest, sizes, point)
                if point in found:
                    self.assertTrue(wanted, (seed, point))
                    free += 1
                elif wanted:
                    level = len(nest.loops[point])
                    mates = [carry for carry in carries(nest) if carry[2] == level and
                             all((point, None) in nest.around(one) for one in carry[:2])]
                    sizes = carry_region(nest, mates[0]).least()
                    self.assertFalse(self.is_free_at(nest, sizes, point))
        self.assertGreater(free, 10)

    def is_free_at(self, nest, sizes, point):
        """Whether the line with the turns of a loop turned about has the nest's outcome."""
        deeds = nestery.deeds_at(nest, sizes)
        level = len(nest.loops[point])
        lots = {}
        for deed in deeds:
            if (point, None) in nest.around(deed[0]):
                lots.setdefault(deed[3][:level], {}).setdefault(deed[3][level], []).append(deed)
        line = []
        past = set()
        for deed in deeds:
            if (point, None) not in nest.around(deed[0]):
                line.append(deed)
            elif deed[3][:level] not in past:
                past.add(deed[3][:level])
                own = lots[deed[3][:level]]
                line.extend([one for key in sorted(own, reverse=True) for one in own[key]])
        return outcome_along(nest, sizes, line) == outcome_along(nest, sizes, deeds)


if __name__ == "__main__":
    unittest.main()
