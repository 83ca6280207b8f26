"""Points [180] and [181]: deeds that are held, loose pairs, journals, outcomes."""

import random
import unittest

import runs
import samples
from samples import NO_KERNELS, NO_SIZES_AT, all_sizes_up_to, loop_kernel, made_kernel, shift_kernel
from lanesmeet.beside import compared, meeting_between
from lanesmeet.errors import (
    BadDeed, BadKernel, BadOrder, BadSizesAt, BadWays, StandsStill, TooMany)
from lanesmeet.kernels import Kernel
from lanesmeet.machine import Run, outcome_of
from lanesmeet.meaning import instances
from lanesmeet.races import races_at
from lanesmeet.traces import (
    is_held, is_outcome, is_ring_of, journal, many_outcomes, order_of, outcomes, ring_of, settled)

LONE = ("none", None, 1)
B = (0, 0)
LANE = ("lane", 1)
RACED = shift_kernel(False)
AT = {"n": (1, 0)}
CALLS = {
    "is_held": lambda kernel, sizes: is_held(kernel, sizes, None, None),
    "settled": lambda kernel, sizes: settled(kernel, sizes, None),
    "order_of": lambda kernel, sizes: order_of(kernel, sizes, None),
    "ring_of": lambda kernel, sizes: ring_of(kernel, sizes, None),
    "is_ring_of": lambda kernel, sizes: is_ring_of(kernel, sizes, None, None),
    "journal": lambda kernel, sizes: journal(kernel, sizes, None),
    "many_outcomes": many_outcomes,
    "outcomes": outcomes,
    "is_outcome": lambda kernel, sizes: is_outcome(kernel, sizes, None)}


def shared(lanes, *body):
    """One block of lanes with a shared array of four cells."""
    return Kernel(1, (1, lanes), (LONE, LONE), (), (), (("shared", "s", (4,)),), (("let", "w", "f", ()),) + body)


def cell(small):
    return ("s", (small,))


def canon(outcome):
    return repr((outcome[0], sorted(outcome[1].items(), key=lambda pair: pair[0]),
                 sorted(outcome[2].items(), key=lambda pair: pair[0])))


def small_cases(seeds, most=2000):
    """Kernels at sizes, with all their orders, if there are not too many of these and none stands still."""
    for seed in seeds:
        kernel = made_kernel(seed, many=5, lane_pairs=((1, 2), (2, 1), (1, 3)))
        for sizes in all_sizes_up_to(kernel, 1):
            plain = runs.Plain(kernel, sizes)
            orders = plain.orders(most)
            if orders is not None:
                yield seed, kernel, sizes, plain, orders


class Traces(unittest.TestCase):
    def test_errors_in_order(self):
        half = Kernel(2, (1, 2), (LONE, LONE), (), (), (("shared", "s", (1,)),), (
            ("if", ("small", LANE, "same", ("is", 0)), (("meet",),), ()),))
        for word, call in CALLS.items():
            for thing in NO_KERNELS:
                with self.assertRaises(BadKernel):
                    call(thing, None)
            for thing in NO_SIZES_AT:
                if thing != {"n": (9, 0)}:
                    with self.assertRaises(BadSizesAt):
                        call(RACED, thing)
            with self.assertRaises(StandsStill, msg=word):
                call(half, {})

    def test_too_many(self):
        loop = Kernel(1, (1, 2), (LONE, LONE), (("n", (0,)),), (), (("far", "a", ("n",)),), (
            ("long", "i", ("none", None, 0), ("tiles", "n", 0), (("take", "x", ("a", ((("turn", "i", 0), LANE),))),)),))
        large = {"n": (10001, 0)}
        deed = (1, B, B, (0,))
        for call in (lambda: is_held(loop, large, deed, deed), lambda: settled(loop, large, []),
                     lambda: order_of(loop, large, ()), lambda: ring_of(loop, large, ()),
                     lambda: is_ring_of(loop, large, (), None), lambda: journal(loop, large, []),
                     lambda: many_outcomes(loop, large), lambda: outcomes(loop, large), lambda: is_outcome(loop, large, None)):
            with self.assertRaises(TooMany) as caught:
                call()
            self.assertEqual(caught.exception.most, 20000)
        for call, error in ((lambda: is_held(loop, large, deed, None), BadDeed), (lambda: is_held(loop, large, None, deed), BadDeed),
                            (lambda: settled(loop, large, None), BadOrder),
                            (lambda: journal(loop, large, 5), BadOrder), (lambda: order_of(loop, large, None), BadWays),
                            (lambda: ring_of(loop, large, []), BadWays), (lambda: is_ring_of(loop, large, None, None), BadWays)):
            with self.assertRaises(error):
                call()

    def test_bad_arguments(self):
        good = (0, B, (0, 1), ())
        for thing in (None, 5, [], (0, B, (0, 4), ()), (0, (1, 0), B, ()), (5, B, B, ()), (False, B, B, ()),
                      [0, B, B, ()], (0, B, B), (0, B, (0, True), ()), (0, B, B, (0,))):
            with self.assertRaises(BadDeed):
                is_held(RACED, AT, thing, good)
            with self.assertRaises(BadDeed):
                is_held(RACED, AT, good, thing)
        with self.assertRaises(BadDeed):
            is_held(shift_kernel(), AT, (1, B, B, ()), (0, B, B, ()))
        for order, where in ((None, None), (5, None), ({}, None), ([(B, B), None], 1), ([(B, (0, 4))], 0),
                             ([(B, B)] * 3, 2), ([(B, (0, True))], 0), ([[B, B]], 0)):
            for one in (settled, journal):
                with self.assertRaises(BadOrder) as caught:
                    one(RACED, AT, order)
                self.assertEqual(caught.exception.at, where)
        pair = races_at(RACED, AT)[0]
        other = races_at(RACED, AT)[1]
        take = pair[0]
        for ways in (None, 5, [], [pair], (None,), (pair[:1],), (list(pair),), (pair + pair,), (pair, pair), (pair, pair[::-1]),
                     (pair[::-1], pair), (other, pair), ((take, take),), ((take, other[1]),), ((None, take),),
                     (((True,) + take[1:], pair[1]),), ((pair[0], (1, B, (0, True), ())),), ((take, list(pair[1])),),
                     ((list(take), pair[1]),), ((take, {}),)):
            for one in (order_of, ring_of):
                with self.assertRaises(BadWays, msg=ways):
                    one(RACED, AT, ways)
            with self.assertRaises(BadWays):
                is_ring_of(RACED, AT, ways, None)

    def test_held(self):
        kernel = shift_kernel()
        take, put = (0, B, (0, 1), ()), (2, B, (0, 2), ())
        self.assertIs(is_held(kernel, AT, take, put), True)
        self.assertIs(is_held(kernel, AT, put, take), False)
        self.assertIs(is_held(kernel, AT, take, take), False)
        self.assertIs(is_held(kernel, AT, take, (0, B, (0, 2), ())), False)
        self.assertIs(is_held(RACED, AT, take, (1, B, (0, 1), ())), True)
        self.assertIs(is_held(RACED, AT, take, (1, B, (0, 2), ())), False)
        two = {"n": (2, 0)}
        self.assertIs(is_held(kernel, two, take, (2, (1, 0), (0, 1), ())), False)

    def test_held_gone_through(self):
        for seed in range(60):
            kernel = made_kernel(seed, many=6)
            for sizes in all_sizes_up_to(kernel, 1):
                run = Run(kernel, sizes)
                deeds = [one for done in run.lists.values() for one in done if run.word_of(one) != "meet"]
                run.finish()
                if run.end() != "done" or len(deeds) > 16:
                    continue
                for one in deeds:
                    for other in deeds:
                        ahead = compared(kernel, (one[0], one[3]), (other[0], other[3])) < 0
                        wanted = ahead and (one[1:3] == other[1:3] or one[1] == other[1]
                                            and meeting_between(kernel, sizes, one, other) is not None)
                        self.assertEqual(is_held(kernel, sizes, one, other), wanted)

    def test_journals_by_hand(self):
        put = ("put", cell(("is", 0)), "w")
        kernel = shared(3, put)
        deeds = [(1, B, (0, lane), ()) for lane in range(3)]
        self.assertEqual(many_outcomes(kernel, {}), 6)
        order = [(B, (0, lane)) for lane in (1, 0, 2)]
        self.assertEqual(settled(kernel, {}, order),
                         ((deeds[0], deeds[2]), (deeds[1], deeds[0]), (deeds[1], deeds[2])))
        self.assertEqual(journal(kernel, {}, order), ((deeds[0], deeds[2]), (deeds[1], deeds[0])))
        self.assertEqual(journal(kernel, {}, order[:1]), journal(kernel, {}, order))
        self.assertEqual(journal(kernel, {}, tuple(order[:2])), journal(kernel, {}, order))
        self.assertEqual(order_of(kernel, {}, ((deeds[2], deeds[0]),)), [(B, (0, lane)) for lane in (1, 2, 0)])
        ways = ((deeds[0], deeds[1]), (deeds[1], deeds[2]), (deeds[2], deeds[0]))
        self.assertIsNone(order_of(kernel, {}, ways))
        ring = ring_of(kernel, {}, ways)
        self.assertEqual(sorted(ring), deeds)
        self.assertIs(is_ring_of(kernel, {}, ways, ring), True)
        self.assertIsNone(ring_of(kernel, {}, ways[:2]))
        for thing in (None, 5, [], list(ring), (), ring[:1], ring[::-1], ring[:2], ring + (None,), (ring[0], ring[0]),
                      ring[:2] + ((True, B, B, ()),), ring + ring[:1]):
            self.assertIs(is_ring_of(kernel, {}, ways, thing), False, thing)
        self.assertIs(is_ring_of(kernel, {}, ways, ring + ring), True)

    def test_rings_through_lanes(self):
        kernel = shared(2, ("put", cell(LANE), "w"), ("take", "x", cell(("minus", ("is", 1), LANE))))
        puts = [(1, B, (0, lane), ()) for lane in (0, 1)]
        takes = [(2, B, (0, lane), ()) for lane in (0, 1)]
        self.assertEqual(many_outcomes(kernel, {}), 3)
        ways = ((takes[0], puts[1]), (takes[1], puts[0]))
        self.assertIsNone(order_of(kernel, {}, ways))
        ring = ring_of(kernel, {}, ways)
        self.assertEqual(sorted(ring), sorted(puts + takes))
        self.assertIs(is_ring_of(kernel, {}, ways, (puts[0], takes[0], puts[1], takes[1])), True)
        self.assertIs(is_ring_of(kernel, {}, ways, (takes[0], puts[0], puts[1], takes[1])), False)
        self.assertEqual(outcomes(kernel, {}), sorted(outcomes(kernel, {})))

    def test_rings_through_meetings(self):
        """Two blocks: in each lane 0 puts, all meet, lane 1 takes what the other block has put."""
        def place(number):
            return ("a", ((("none", None, 0), ("is", number)),))

        def only(lane, *block):
            return ("if", ("small", LANE, "same", ("is", lane)), block, ())

        first = ("order", (("block", 0, 0), ("is", 0)), (("none", None, 0), ("is", 0)))
        body = (("let", "w", "f", ()), only(0, ("if", first, (("put", place(0), "w"),), (("put", place(1), "w"),))), ("meet",),
                only(1, ("if", first, (("take", "x", place(1)),), (("take", "x", place(0)),))))
        kernel = Kernel(2, (1, 2), (("none", None, 2), LONE), (("n", (0,)),), (), (("far", "a", ("n",)),), body)
        puts = [(3 + block, (block, 0), (0, 0), ()) for block in (0, 1)]
        takes = [(8 + block, (block, 0), (0, 1), ()) for block in (0, 1)]
        self.assertEqual(races_at(kernel, AT), sorted([(puts[0], takes[1]), (puts[1], takes[0])]))
        self.assertIs(is_held(kernel, AT, puts[0], takes[0]), True)
        self.assertEqual(many_outcomes(kernel, AT), 3)
        ways = ((takes[0], puts[1]), (takes[1], puts[0]))
        self.assertIsNone(order_of(kernel, AT, ways))
        ring = ring_of(kernel, AT, ways)
        self.assertEqual(sorted(ring), sorted(puts + takes))
        self.assertIs(is_ring_of(kernel, AT, ways, ring), True)
        for one in ((takes[0], puts[1]), (puts[1], takes[0])):
            self.assertIsNone(ring_of(kernel, AT, (one,)))
            self.assertEqual(len(order_of(kernel, AT, (one,))), 4)

    def test_one_outcome(self):
        kernel = shift_kernel()
        self.assertEqual((many_outcomes(kernel, AT), outcomes(kernel, AT)), (1, [()]))
        self.assertEqual((settled(kernel, AT, []), journal(kernel, AT, [])), ((), ()))
        run = Run(kernel, AT)
        run.finish()
        self.assertIs(is_outcome(kernel, AT, run.outcome()), True)
        self.assertIs(is_outcome(kernel, {"n": (0, 0)}, ("done", {}, {})), True)
        empty = Kernel(1, (1, 1), (LONE, LONE), (), (), (), ())
        self.assertEqual((many_outcomes(empty, {}), outcomes(empty, {}), order_of(empty, {}, ())), (1, [()], []))
        self.assertIsNone(ring_of(empty, {}, ()))
        self.assertEqual(many_outcomes(loop_kernel(), {"n": (2, 1)}), len(outcomes(loop_kernel(), {"n": (2, 1)})))

    def test_more_than_1000_outcomes(self):
        put = ("put", cell(("is", 0)), "w")
        self.assertEqual(many_outcomes(shared(6, put), {}), 720)
        self.assertEqual(len(outcomes(shared(6, put), {})), 720)
        for kernel in (shared(7, put), shared(8, put, put, put)):
            for one in (many_outcomes, outcomes):
                with self.assertRaises(TooMany) as caught:
                    one(kernel, {})
                self.assertEqual(caught.exception.most, 1000)
            found = outcome_of(kernel, {}, [(B, (0, 5)), (B, (0, 2))])
            self.assertIs(is_outcome(kernel, {}, found), True)
            order = [(B, (0, 5))]
            self.assertEqual(order_of(kernel, {}, journal(kernel, {}, order)), order_of(kernel, {}, settled(kernel, {}, order)))
        adds = shared(3, ("take", "x", cell(("is", 0))), ("add", cell(("is", 0)), "w"))
        self.assertEqual(many_outcomes(adds, {}), len({canon(runs.Plain(adds, {}).outcome(order))
                                                      for order in runs.Plain(adds, {}).orders(200000)}))

    def test_exactly_1000_are_few_enough(self):
        def only(lane, *block):
            return ("if", ("small", LANE, "same", ("is", lane)), block, ())

        # A take comes ahead of nine puts of another lane, or behind some of them: ten outcomes for each of three blocks.
        put = ("put", cell(("is", 0)), "w")
        body = (("let", "w", "f", ()), only(0, ("short", "k", 8, (put,)), put), only(1, ("take", "x", cell(("is", 0)))))
        kernel = Kernel(1, (1, 2), (("none", None, 3), LONE), (), (), (("shared", "s", (1,)),), body)
        self.assertEqual(many_outcomes(kernel, {}), 1000)
        self.assertEqual(len(outcomes(kernel, {})), 1000)
        # 7 * 11 * 13 are 1001.
        body = (("let", "w", "f", ()),)
        for lane, counts in ((0, (6,)), (2, (8, 2)), (4, (8, 4))):
            own = ("put", cell(("is", lane)), "w")
            body = body + (only(lane, *[("short", "k", count, (own,)) for count in counts]),
                           only(lane + 1, ("take", "x", cell(("is", lane)))))
        kernel = Kernel(1, (1, 6), (LONE, LONE), (), (), (("shared", "s", (5,)),), body)
        for one in (many_outcomes, outcomes):
            with self.assertRaises(TooMany):
                one(kernel, {})

    def test_outcomes_of_two_kinds_of_deeds(self):
        """is_outcome for each order of deeds at one cell, of two lanes."""
        deeds = (("take", "x", cell(("is", 0))), ("put", cell(("is", 0)), "w"), ("add", cell(("is", 0)), "w"))
        for first in deeds:
            for second in deeds:
                for third in (deeds[1], deeds[2]):
                    sides = ("if", ("small", LANE, "same", ("is", 0)), (first, third), (second,))
                    kernel = shared(2, sides)
                    plain = runs.Plain(kernel, {})
                    found = {}
                    for order in plain.orders(100):
                        found[canon(plain.outcome(order))] = plain.outcome(order)
                        self.assertIs(is_outcome(kernel, {}, plain.outcome(order)), True)
                    self.assertEqual(many_outcomes(kernel, {}), len(found))
                    whole = list(found.values())
                    for one in whole:
                        for other in whole:
                            mixed = (one[0], one[1], other[2])
                            self.assertEqual(is_outcome(kernel, {}, mixed), canon(mixed) in found)

    def test_bad_outcomes(self):
        kernel = shared(2, ("put", cell(("is", 0)), "w"), ("take", "x", cell(("is", 0))), ("add", cell(LANE), "w"))
        end, met, left = outcome_of(kernel, {}, [])
        self.assertIs(is_outcome(kernel, {}, (end, met, left)), True)
        one = list(met)[0]
        spot = list(left)[0]
        for thing in (None, 5, [], (), "done", (end, met), [end, met, left], (None, met, left), ("still", met, left),
                      (["done"], met, left), (end, list(met.items()), left), (end, met, None), (end, {}, left), (end, met, {}),
                      (end, {**met, "more": (None, ())}, left), (end, met, {**left, ("s", (3,), B): (None, ())}),
                      (end, {key: met[key] for key in met if key != one}, left), (end, {**met, one: None}, left),
                      (end, {**met, one: [None, ()]}, left), (end, {**met, one: (None, [])}, left),
                      (end, {**met, one: (one, ())}, left), (end, {**met, one: (None, (one,))}, left),
                      (end, met, {**left, spot: (None, ())}), (end, met, {**left, spot: list(left[spot])}),
                      (end, met, {**left, spot: None}), (end, met, {key: left[key] for key in left if key != spot})):
            self.assertIs(is_outcome(kernel, {}, thing), False, thing)

        def with_bools(thing):
            if isinstance(thing, tuple):
                return tuple(with_bools(item) for item in thing)
            return True if thing == 1 and isinstance(thing, int) else thing

        self.assertIs(is_outcome(kernel, {}, (end, {with_bools(key): met[key] for key in met}, left)), False)
        self.assertIs(is_outcome(kernel, {}, (end, {key: with_bools(met[key]) for key in met}, left)), False)
        self.assertIs(is_outcome(kernel, {}, (end, met, {key: with_bools(left[key]) for key in left})), False)

    def test_gone_through(self):
        counts = {}
        for seed, kernel, sizes, plain, orders in small_cases(range(160), 1000):
            ends = {plain.outcome(order)[0] == "done" for order in orders}
            if ends != {True}:
                with self.assertRaises(StandsStill):
                    many_outcomes(kernel, sizes)
                continue
            r = random.Random(seed)
            known = {}
            for order in orders:
                known.setdefault(canon(plain.outcome(order)), []).append(order)
            self.assertEqual(many_outcomes(kernel, sizes), len(known))
            journals = outcomes(kernel, sizes)
            self.assertEqual(journals, sorted(journals))
            self.assertEqual(len({repr(own) for own in journals}), len(known))
            counts[min(len(known), 3)] = counts.get(min(len(known), 3), 0) + 1
            told = set()
            for key in known:
                own = {settled(kernel, sizes, order) for order in r.sample(known[key], min(3, len(known[key])))}
                self.assertEqual(len(own), 1)
                told.add(own.pop())
                self.check_journal(kernel, sizes, plain, known, key, journals, r)
            self.assertEqual(len(told), len(known))
            self.check_ways(kernel, sizes, plain, orders, r)
            self.check_outcomes(kernel, sizes, plain, known, r)
        self.assertGreater(min(counts[1], counts[2], counts[3]), 4)

    def check_journal(self, kernel, sizes, plain, known, key, journals, r):
        """RULE J, for one of the outcomes."""
        order = known[key][0]
        own = journal(kernel, sizes, order)
        whole = settled(kernel, sizes, order)
        self.assertIn(own, journals)
        self.assertLessEqual(set(own), set(whole))
        self.assertEqual(canon(plain.outcome(order_of(kernel, sizes, own))), key)
        for other in r.sample(list(known), min(8, len(known))):
            for mate in r.sample(known[other], min(3, len(known[other]))):
                deeds = plain.deeds_of(mate)
                keeps = all(deeds.index(one) < deeds.index(later) for one, later in own)
                self.assertEqual(keeps, other == key)
        for way in own:
            others = tuple(sorted([mate for mate in whole if mate != way] + [way[::-1]]))
            found = order_of(kernel, sizes, others)
            self.assertIsNotNone(found)
            self.assertNotEqual(canon(plain.outcome(found)), key)

    def check_ways(self, kernel, sizes, plain, orders, r):
        """That there is an order or a ring, never both."""
        loose = races_at(kernel, sizes)
        for _ in range(4):
            ways = tuple(sorted(r.choice((pair, pair[::-1])) for pair in loose if r.random() < 0.8))
            order = order_of(kernel, sizes, ways)
            ring = ring_of(kernel, sizes, ways)
            self.assertEqual(order is None, ring is not None)
            if ring is not None:
                self.assertTrue(is_ring_of(kernel, sizes, ways, ring))
                continue
            deeds = plain.deeds_of(order)
            self.assertEqual(len(order), len(orders[0]))
            self.assertTrue(all(deeds.index(one) < deeds.index(later) for one, later in ways))
            wanted = [own for own in orders if all(
                plain.deeds_of(own).index(one) < plain.deeds_of(own).index(later) for one, later in ways)]
            self.assertEqual(order, min(wanted))

    def check_outcomes(self, kernel, sizes, plain, known, r):
        for key in r.sample(list(known), min(5, len(known))):
            end, met, left = plain.outcome(known[key][0])
            self.assertIs(is_outcome(kernel, sizes, (end, met, left)), True)
            if met:
                one = r.choice(sorted(met))
                other = {**met, one: r.choice(list(met.values()) + [(None, ())])}
                self.assertEqual(is_outcome(kernel, sizes, (end, other, left)), canon((end, other, left)) in known)
            if left:
                one = r.choice(sorted(left))
                other = {**left, one: r.choice(list(left.values()) + [(None, ())])}
                self.assertEqual(is_outcome(kernel, sizes, (end, met, other)), canon((end, met, other)) in known)


if __name__ == "__main__":
    unittest.main()
