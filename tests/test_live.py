"""Point [183]: live runs."""

import random
import unittest

import runs
from samples import NO_KERNELS, NO_SIZES_AT, shift_kernel
from test_traces import B, LANE, LONE, canon, cell, shared, small_cases
from lanesmeet.errors import (
    BadBlock, BadCell, BadKernel, BadLane, BadSizesAt, Behind, NotAble, NotDone, StandsStill, TooMany)
from lanesmeet.kernels import Kernel
from lanesmeet.live import Live
from lanesmeet.machine import Run
from lanesmeet.races import races_at
from lanesmeet.traces import is_held

AT = {"n": (1, 0)}


def live_along(kernel, sizes, order):
    live = Live(kernel, sizes)
    for pair in order:
        live.do(*pair)
    return live


def rows_behind(kernel, sizes, done, deed):
    """The deeds that stand behind one, by going on from deed to deed along the document's words."""
    loose = set(races_at(kernel, sizes))
    found = set()
    todo = [deed]
    while todo:
        one = todo.pop()
        for other in done:
            joined = tuple(sorted((one, other))) in loose and done.index(one) < done.index(other)
            if other not in found and (joined or is_held(kernel, sizes, one, other)):
                found.add(other)
                todo.append(other)
    return sorted(found)


class Lives(unittest.TestCase):
    def test_errors_in_order(self):
        for thing in NO_KERNELS:
            with self.assertRaises(BadKernel):
                Live(thing, None)
        for thing in NO_SIZES_AT:
            if thing != {"n": (9, 0)}:
                with self.assertRaises(BadSizesAt):
                    Live(shift_kernel(), thing)
        half = Kernel(2, (1, 2), (LONE, LONE), (), (), (("shared", "s", (1,)),), (
            ("if", ("small", LANE, "same", ("is", 0)), (("meet",),), ()),))
        with self.assertRaises(StandsStill):
            Live(half, {})
        loop = Kernel(1, (1, 2), (LONE, LONE), (("n", (0,)),), (), (("far", "a", ("n",)),), (
            ("long", "i", ("none", None, 0), ("tiles", "n", 0), (("take", "x", ("a", ((("turn", "i", 0), LANE),))),)),))
        with self.assertRaises(TooMany) as caught:
            Live(loop, {"n": (10001, 0)})
        self.assertEqual(caught.exception.most, 20000)

    def test_errors_of_deeds(self):
        live = Live(shift_kernel(), AT)
        for one in (live.do, live.standing):
            for block in (None, 5, (0,), (1, 0), (0, 1), (0, True), [0, 0], (-1, 0)):
                with self.assertRaises(BadBlock):
                    one(block, None)
            for lane in (None, 5, (0,), (1, 0), (0, 4), (0, True), [0, 0]):
                with self.assertRaises(BadLane):
                    one(B, lane)
        live.do(B, B)
        with self.assertRaises(NotAble):
            live.do(B, B)
        for thing in (None, 5, ("a",), ("a", ((0, 9),)), ("b", ((0, 0),)), ["a", ((0, 0),)], ("a", ((True, 0),))):
            with self.assertRaises(BadCell):
                live.content(thing)
        done = live.done()[0]
        for thing in (None, 5, [], list(done), (0, B, (0, 1), ()), (1, B, B, ()), (False,) + done[1:], (0, B, (0, False), ())):
            for one in (live.behind, live.take_back):
                with self.assertRaises(NotDone, msg=thing):
                    one(thing)
        self.assertEqual(live.done(), [done])

    def test_by_hand(self):
        kernel = shift_kernel(False)
        live = Live(kernel, AT)
        lanes = [(B, (0, lane)) for lane in range(4)]
        take, put = (lambda lane: (0, B, (0, lane), ())), (lambda lane: (1, B, (0, lane), ()))
        self.assertEqual((live.able(), live.done(), live.order()), (lanes, [], []))
        pairs = [(take(lane), put(lane - 1)) for lane in (1, 2, 3)]
        self.assertEqual(live.open_pairs(), pairs)
        self.assertEqual((live.many_left(), live.is_settled(), live.free()), (8, False, lanes[:1]))
        self.assertEqual(live.to_open(), [take(0)])
        self.assertEqual(live.to_open(), [])
        self.assertEqual((live.many_left(), live.standing(B, (0, 0))), (8, put(0)))
        self.assertEqual(live.do(B, (0, 0)), put(0))
        self.assertEqual((live.many_left(), live.open_pairs()), (4, pairs[1:]))
        self.assertEqual(live.content(("a", ((0, 1),))), (put(0), ()))
        self.assertEqual(live.do(B, (0, 1)), take(1))
        self.assertEqual(live.behind(take(0)), [take(1), put(0)])
        self.assertEqual(live.behind(put(0)), [take(1)])
        with self.assertRaises(Behind) as caught:
            live.take_back(take(0))
        self.assertEqual(caught.exception.other, take(1))
        self.assertIsNone(live.take_back(take(1)))
        self.assertEqual((live.done(), live.order()), ([take(0), put(0)], lanes[:1] * 2))
        self.assertEqual(live.standing(B, (0, 1)), take(1))
        live.do(B, (0, 3))
        live.take_back(put(0))
        self.assertEqual(live.done(), [take(0), take(3)])
        self.assertEqual(live.content(("a", ((0, 1),))), (None, ()))

    def test_equal_runs(self):
        kernel = shift_kernel(False)
        lanes = [(B, (0, lane)) for lane in range(4)]
        one = live_along(kernel, AT, [lanes[0], lanes[1]])
        self.assertTrue(one == live_along(shift_kernel(False), AT, [lanes[1], lanes[0]]))
        self.assertFalse(one == live_along(kernel, AT, [lanes[0]]))
        self.assertFalse(one == live_along(kernel, AT, [lanes[0], lanes[2]]))
        self.assertFalse(one == live_along(shift_kernel(), AT, [lanes[0], lanes[1]]))
        self.assertFalse(live_along(kernel, AT, []) == live_along(kernel, {"n": (2, 0)}, []))
        first = live_along(kernel, AT, [lanes[0], lanes[0], lanes[1]])
        self.assertFalse(first == live_along(kernel, AT, [lanes[0], lanes[1], lanes[0]]))
        self.assertTrue(first != live_along(kernel, AT, [lanes[0], lanes[1], lanes[0]]))
        for thing in (None, 5, kernel, Run(kernel, AT), "live", [], first.done()):
            self.assertIs(first == thing, False)

    def test_results_are_new(self):
        live = live_along(shift_kernel(False), AT, [(B, B)])
        for one in (live.done, live.order, live.open_pairs, live.able, live.free):
            one().clear()
        self.assertEqual((len(live.done()), len(live.order()), len(live.able())), (1, 1, 4))
        self.assertEqual(len(live.open_pairs()), 3)

    def test_sizes_may_change_later(self):
        sizes = {"n": (1, 0)}
        live = Live(shift_kernel(), sizes)
        sizes["n"] = (9, 0)
        self.assertEqual(len(live.able()), 4)
        self.assertTrue(live == Live(shift_kernel(), AT))

    def test_many_left(self):
        put = ("put", cell(("is", 0)), "w")
        live = Live(shared(7, put), {})
        with self.assertRaises(TooMany) as caught:
            live.many_left()
        self.assertEqual(caught.exception.most, 1000)
        live.do(B, (0, 3))
        self.assertEqual(live.many_left(), 720)

    def test_gone_through(self):
        settled = 0
        for seed, kernel, sizes, plain, orders in small_cases(range(110), 1200):
            if plain.outcome(orders[0])[0] != "done":
                with self.assertRaises(StandsStill):
                    Live(kernel, sizes)
                continue
            r = random.Random(seed)
            order = r.choice(orders)
            ahead = order[:r.randint(0, len(order))]
            live = Live(kernel, sizes)
            for at, pair in enumerate(ahead):
                self.check_standing(live, plain, order[:at])
                self.check_left(live, plain, orders, order[:at])
                live.do(*pair)
            self.check_standing(live, plain, ahead)
            left = self.check_left(live, plain, orders, ahead)
            settled += left == 1 and bool(races_at(kernel, sizes))
            self.check_back(live, kernel, sizes, ahead)
            self.check_to_open(live, plain, ahead, left)
        self.assertGreater(settled, 5)

    def check_standing(self, live, plain, ahead):
        spots = plain.start()
        for pair in ahead:
            spots = plain.moved(spots, pair)
        self.assertEqual(live.able(), plain.able(spots))
        self.assertEqual(live.order(), ahead)
        self.assertEqual(live.done(), plain.deeds_of(ahead))
        for pair in spots:
            self.assertEqual(live.standing(*pair), plain.head(spots, pair))
        contents = plain.outcome(ahead)[2]
        for where in set(plain.cells.values()):
            self.assertEqual(live.content(where), contents.get(where, (None, ())))

    def check_left(self, live, plain, orders, ahead):
        """How many outcomes are left, and which deeds leave all of them."""
        own = [order for order in orders if order[:len(ahead)] == ahead]
        left = {canon(plain.outcome(order)) for order in own}
        self.assertEqual(live.many_left(), len(left))
        self.assertEqual(live.is_settled(), len(left) == 1)
        self.assertEqual(live.is_settled(), live.open_pairs() == [])
        wanted = [pair for pair in live.able()
                  if {canon(plain.outcome(order)) for order in own if order[len(ahead)] == pair} == left]
        self.assertEqual(live.free(), wanted)
        done = set(live.done())
        loose = races_at(live.kernel, plain.sizes)
        self.assertEqual(live.open_pairs(), [pair for pair in loose if not done & set(pair)])
        return len(left)

    def check_back(self, live, kernel, sizes, ahead):
        """What stands behind deeds, and taking back."""
        for deed in live.done():
            behind = rows_behind(kernel, sizes, live.done(), deed)
            self.assertEqual(live.behind(deed), behind)
            if behind:
                with self.assertRaises(Behind) as caught:
                    live.take_back(deed)
                self.assertEqual(caught.exception.other, behind[0])
                continue
            other = live_along(kernel, sizes, ahead)
            other.take_back(deed)
            rest = [one for one in live.done() if one != deed]
            self.assertEqual(other.done(), rest)
            again = live_along(kernel, sizes, [one[1:3] for one in rest])
            self.assertTrue(other == again)
            self.assertEqual((other.able(), other.many_left()), (again.able(), again.many_left()))
            self.assertEqual(other.do(*deed[1:3]), deed)
            self.assertTrue(other == live)

    def check_to_open(self, live, plain, ahead, left):
        """That one goes on in the text order, up to ahead of the first deed in an open pair."""
        before = live.done()
        found = live.to_open()
        self.assertEqual(live.done(), before + found)
        self.assertEqual(live.many_left(), left)
        spots = plain.start()
        for pair in ahead:
            spots = plain.moved(spots, pair)
        for deed in found:
            self.assertEqual(plain.able(spots)[0], deed[1:3])
            spots = plain.moved(spots, deed[1:3])
        able = live.able()
        if able:
            self.assertTrue(any(live.standing(*able[0]) in pair for pair in live.open_pairs()))


if __name__ == "__main__":
    unittest.main()
