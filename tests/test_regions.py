"""Point [24]: regions of sizes."""

import itertools
import random
import unittest

import talks
from lanesmeet.differences import is_system, needless, ring
from lanesmeet.errors import BadName, BadPromises, BadRests, BadSizes, BadTold, OtherSizes
from lanesmeet.papers import is_tree
from lanesmeet.regions import Region, all_sizes
from lanesmeet.sayings import free_names, holds, is_within, saying_of

SIZES = (("n", (0, 1)),)
EXAMPLE = Region(SIZES, (), {(1,): ("row", None, "tiles n", -2)})
NO_SIZES = [None, [], {}, [("n", (0,))], (("n", [0]),), (("n", ()),), (("n", (1, 0)),), (("n", (0, 0)),), (("N", (0,)),),
            (("n", (8,)),), (("n", (-1,)),), (("n", (False,)),), (("n", (0,)), ("n", (1,))), (["n", (0,)],), (("n",),),
            tuple((name, (0,)) for name in "abcd"), (("abcdefghi", (0,)),), ((5, (0,)),)]
NO_PROMISES = [None, [], [("n", None, 1)], (("m", None, 1),), (("n", None, True),), (("n", "n", 1),), (("n", None),),
               (("n", None, 1),) * 9, (["n", None, 1],), (("tiles n", None, 1),)]


def samples(count, seed):
    for at in range(count):
        r = random.Random(seed * 1000 + at)
        names = "nmk"[:r.randint(0, 3)]
        sizes = tuple((name, tuple(sorted(r.sample(range(4), r.randint(1, 2))))) for name in names)
        promises = ()
        if names:
            promises = tuple((*r.sample(list(names) + [None], 2), r.randint(-1, 3)) for _ in range(r.choice((0, 0, 1, 2))))
        yield r, sizes, promises


def some_told(r, sizes):
    names = ["tiles " + name for name, _ in sizes]
    keys = itertools.product(*[rests for _, rests in sizes])
    return {key: talks.made_saying(r, r.randint(1, 7), names, ("X",), 4) for key in keys if r.random() < 0.8}


def some_sizes(r, sizes, promises, most):
    names = [name for name, _ in sizes]
    found = []
    for tiles in itertools.product(range(most + 1), repeat=len(names)):
        value = dict(zip(names, tiles))
        value[None] = 0
        if all(value[a] - value[b] <= c for a, b, c in promises):
            for rests in itertools.product(*[rests for _, rests in sizes]):
                found.append({name: (value[name], rest) for name, rest in zip(names, rests)})
    r.shuffle(found)
    return found


def is_told(told, sizes, at):
    key = tuple(at[name][1] for name, _ in sizes)
    if key not in told:
        return False
    return holds(told[key], {name: at[name[len("tiles "):]][0] for name in free_names(told[key])})


class Making(unittest.TestCase):
    def test_attributes(self):
        region = Region(SIZES, (("n", None, 3),), {})
        self.assertEqual((region.sizes, region.promises), (SIZES, (("n", None, 3),)))

    def test_bad_sizes_and_promises(self):
        for thing in NO_SIZES:
            with self.assertRaises(BadSizes):
                Region(thing, None, None)
            with self.assertRaises(BadSizes):
                all_sizes(thing, None)
        for thing in NO_PROMISES:
            with self.assertRaises(BadPromises):
                Region(SIZES, thing, None)
            with self.assertRaises(BadPromises):
                all_sizes(SIZES, thing)

    def test_bad_told(self):
        row = ("row", None, "tiles n", -2)
        for told, key in ((None, None), ([], None), (((1,), row), None), ({(2,): row}, (2,)), ({(1,): 5}, (1,)),
                          ({(1,): ("row", None, "tiles m", 0)}, (1,)), ({(1,): ("row", None, "n", 0)}, (1,)),
                          ({(True,): row}, (True,)), ({1: row}, 1), ({(0,): row, (1,): 5, (5,): row}, (1,)),
                          ({(7,): row, (5,): row, 3: row}, 3), ({(7,): row, (5,): row, (6,): row}, (5,)),
                          ({(0, 7): row, (0, 5, 1): row}, (0, 5, 1)), ({9: row, 7: row, "a": row}, 7), ({"b": row, "a": row, (0,): row}, "a"),
                          ({None: row, (9,): row, 4: row}, None), ({(0, 0): row}, (0, 0)), ({(): row}, ())):
            with self.assertRaises(BadTold) as caught:
                Region(SIZES, (), told)
            self.assertEqual(caught.exception.key, key)
            self.assertEqual(repr(caught.exception.key), repr(key))

    def test_what_is_passed_may_change_later(self):
        told = {(1,): ("row", None, "tiles n", -2)}
        region = Region(SIZES, (), told)
        told[(0,)] = ("and", ())
        self.assertEqual(region, EXAMPLE)


class Example(unittest.TestCase):
    def test_by_hand(self):
        self.assertEqual(EXAMPLE.least(), {"n": (2, 1)})
        self.assertEqual((~EXAMPLE).least(), {"n": (0, 0)})
        self.assertIsNone(EXAMPLE.most("n"))
        self.assertIsNone((~EXAMPLE).most("n"))
        self.assertEqual(Region(SIZES, (), {(0,): ("row", "tiles n", None, 4)}).most("n"), 4)
        self.assertEqual(Region(SIZES, (), {}).most("n"), -1)
        self.assertIsNone(Region(SIZES, (), {}).least())
        self.assertEqual(EXAMPLE.told((1,)), [[(None, "tiles n", -2)]])
        self.assertEqual(EXAMPLE.told((0,)), [])
        self.assertIs(bool(EXAMPLE), True)
        self.assertIs(bool(EXAMPLE & ~EXAMPLE), False)

    def test_sizes_of_any_value(self):
        for thing in ({"n": (2, 1)}, {"n": (9, 1)}):
            self.assertIs(thing in EXAMPLE, True)
        for thing in (None, 5, [], {}, {"n": (1, 1)}, {"n": (2, 0)}, {"n": [2, 1]}, {"n": (2, True)}, {"n": (True, 1)},
                      {"n": (2, 1), "m": (2, 1)}, {"m": (2, 1)}, {"n": (2, 1, 0)}, {"n": (2, 2)}, {"n": (-1, 1)}, EXAMPLE):
            self.assertIs(thing in EXAMPLE, False)
        region = all_sizes(SIZES, (("n", None, 1), (None, "n", -1)))
        self.assertEqual([{"n": (tiles, 0)} in region for tiles in range(4)], [False, True, False, False])

    def test_bad_names_and_rests(self):
        for name in (None, "m", 5, "tiles n", []):
            with self.assertRaises(BadName):
                EXAMPLE.most(name)
        for rests in (None, (2,), (True,), [1], 1, (1, 0), ()):
            with self.assertRaises(BadRests):
                EXAMPLE.told(rests)

    def test_least_is_by_tiles_then_rests(self):
        sizes = (("n", (0, 2)), ("m", (0, 1)))
        three = ("row", None, "tiles n", 0)
        told = {(2, 1): ("and", ()), (0, 1): ("row", None, "tiles m", -1), (0, 0): ("row", None, "tiles n", -1)}
        self.assertEqual(Region(sizes, (), told).least(), {"m": (0, 1), "n": (0, 2)})
        self.assertEqual(list(Region(sizes, (), told).least()), ["m", "n"])
        del told[(2, 1)]
        self.assertEqual(Region(sizes, (), told).least(), {"m": (1, 1), "n": (0, 0)})
        self.assertEqual(Region(sizes, (), {(2, 0): three, (0, 1): three}).least(), {"m": (0, 1), "n": (0, 0)})

    def test_no_sizes_at_all(self):
        always = all_sizes((), ())
        never = Region((), (), {})
        self.assertIs({} in always, True)
        self.assertIs({} in never, False)
        self.assertEqual(always.least(), {})
        self.assertEqual(always.told(()), [[]])
        self.assertEqual(~always, never)
        self.assertIs(bool(all_sizes(SIZES, (("n", None, -1),))), False)


class OtherRegions(unittest.TestCase):
    def test_other_sizes(self):
        for other in (all_sizes((("m", (0, 1)),), ()), all_sizes(SIZES, (("n", None, 5),)), all_sizes((("n", (0,)),), ())):
            for call in (lambda: EXAMPLE | other, lambda: EXAMPLE & other, lambda: EXAMPLE - other,
                         lambda: EXAMPLE.within(other), lambda: EXAMPLE.shown(other),
                         lambda: EXAMPLE.is_shown(other, None)):
                with self.assertRaises(OtherSizes):
                    call()
            self.assertIs(EXAMPLE == other, False)
        # Promises count as they are told, also if they say the same.
        twice = all_sizes(SIZES, (("n", None, 5), ("n", None, 5)))
        self.assertIs(twice == all_sizes(SIZES, (("n", None, 5),)), False)

    def test_equal_to_no_other_kind(self):
        for thing in (None, 5, SIZES, {}, "region"):
            self.assertIs(EXAMPLE == thing, False)
            self.assertIs(EXAMPLE != thing, True)

    def test_signs_gone_through(self):
        for r, sizes, promises in samples(250, 1):
            first, second = some_told(r, sizes), some_told(r, sizes)
            one, other = Region(sizes, promises, first), Region(sizes, promises, second)
            both, any_of, less, no = one & other, one | other, one - other, ~one
            for at in some_sizes(r, sizes, promises, 4)[:20]:
                a, b = is_told(first, sizes, at), is_told(second, sizes, at)
                self.assertEqual((at in one, at in both, at in any_of, at in less, at in no),
                                 (a, a and b, a or b, a and not b, not a))
            self.assertEqual(~no, one)
            self.assertEqual(no & one, Region(sizes, promises, {}))
            self.assertEqual(no | one, all_sizes(sizes, promises))
            self.assertEqual(less | both, one)
            self.assertIs(both.within(one), True)
            self.assertEqual(one.within(other), not less)
            self.assertEqual(one == other, one.within(other) and other.within(one))

    def test_least_and_most_gone_through(self):
        for r, sizes, promises in samples(250, 2):
            told = some_told(r, sizes)
            region = Region(sizes, promises, told)
            names = [name for name, _ in sizes]
            found = [at for at in some_sizes(r, sizes, promises, 5) if at in region]
            least = region.least()
            self.assertEqual(bool(region), least is not None)
            if found:
                def rank(at):
                    tiles = [at[name][0] for name in names]
                    return sum(tiles), tiles, [at[name][1] for name in names]
                self.assertIn(least, region)
                if max([tiles for tiles, _ in least.values()], default=0) <= 5:
                    self.assertEqual(least, min(found, key=rank))
            for name in names:
                greatest = region.most(name)
                if not region:
                    self.assertEqual(greatest, -1)
                elif greatest is not None:
                    tiles = [at[name][0] for at in found]
                    self.assertTrue(all(number <= greatest for number in tiles))
                    if greatest < 3 and not promises and len(names) == 1:
                        self.assertEqual(greatest, max(tiles))
            # Finitely many sizes belong to it exactly if most is None for no name.
            for name in names:
                keys = itertools.product(*[rests for _, rests in sizes])
                far = Region(sizes, promises, {key: ("row", None, "tiles " + name, -60) for key in keys})
                self.assertEqual(bool(region & far), region.most(name) is None)
            # What has sizes has some whose tiles are small.
            numbers = [abs(c) for _, _, c in promises]
            bound = max([(talks.greatest(one) + 1) * 2 ** len(talks.bound_names(one)) for one in told.values()]
                        + [number + 1 for number in numbers], default=1)
            if least is not None:
                self.assertLessEqual(max([tiles for tiles, _ in least.values()], default=0), len(names) * bound)

    def test_told_is_as_systems_of(self):
        for r, sizes, promises in samples(150, 3):
            told = some_told(r, sizes)
            region = Region(sizes, promises, told)
            for rests in itertools.product(*[rests for _, rests in sizes]):
                systems = region.told(rests)
                rows = [("row", None, "tiles " + name, 0) for name, _ in sizes]
                rows += [("row", a and "tiles " + a, b and "tiles " + b, c) for a, b, c in promises]
                wanted = ("and", (told.get(rests, ("or", ())),) + tuple(rows))
                got = saying_of(systems)
                self.assertTrue(is_within(wanted, got) and is_within(got, wanted))
                for system in systems:
                    self.assertTrue(is_system(system) and ring(system) is None and needless(system) == ())
                for one, other in itertools.permutations(systems, 2):
                    self.assertFalse(is_within(saying_of([one]), saying_of([other])))

    def test_shown(self):
        for r, sizes, promises in samples(150, 4):
            one, other = (Region(sizes, promises, some_told(r, sizes)) for _ in range(2))
            every = all_sizes(sizes, promises)
            for first, second in ((one & other, one), (one, other), (~(one | other), ~one & ~other), (every, one | ~one)):
                trees = first.shown(second)
                self.assertEqual(trees is not None, first.within(second))
                if trees is None:
                    continue
                keys = list(itertools.product(*[rests for _, rests in sizes]))
                self.assertEqual(list(trees), sorted(keys))
                for key in keys:
                    claims = [(saying_of(first.told(key)), True), (saying_of(second.told(key)), False)]
                    self.assertIs(is_tree(claims, trees[key]), True)
                self.assertIs(first.is_shown(second, trees), True)

    def test_is_shown_of_any_value(self):
        trees = EXAMPLE.shown(EXAMPLE)
        self.assertIs(EXAMPLE.is_shown(EXAMPLE, trees), True)
        alike = {(False,): trees[(0,)], (True,): trees[(1,)]}
        for thing in (None, 5, {}, [], {(1,): trees[(1,)]}, alike, {**trees, (2,): trees[(1,)]},
                      {**trees, (1,): ("part", 0, ())}, list(trees.items())):
            self.assertIs(EXAMPLE.is_shown(EXAMPLE, thing), False)
        self.assertIs(EXAMPLE.is_shown(~EXAMPLE, trees), False)
        self.assertIsNone(EXAMPLE.shown(~EXAMPLE))

    def test_results_are_new(self):
        EXAMPLE.told((1,))[0].append(5)
        EXAMPLE.least()["n"] = None
        self.assertEqual(EXAMPLE.told((1,)), [[(None, "tiles n", -2)]])
        self.assertEqual(EXAMPLE.least(), {"n": (2, 1)})


if __name__ == "__main__":
    unittest.main()
