"""Points [60] and [61]: steps, what is side by side, and the saying of it."""

import itertools
import random
import unittest

import runs
import samples
from lanesmeet.beside import are_beside, beside, compared, meeting_between
from lanesmeet.differences import is_point
from lanesmeet.errors import (
    BadInstance, BadKernel, BadPair, BadSizesAt, BadStep, OtherBlocks, SameLane, TooMany)
from lanesmeet.kernels import Kernel
from lanesmeet.meaning import cases_of, instances, marked
from lanesmeet.sayings import free_names, holds, is_saying, is_within

ONE = samples.ONE
B = (0, 0)
DEEDS = ("take", "put", "add")
HOWS = ("same", "less 0", "more 0", "less 1", "more 1")


def example_kernel():
    """Put, meeting and take in a long loop, all for both lanes."""
    loop = ("long", "t", ("none", None, 0), ("tiles", "n", 0), (
        ("put", ("s", (("is", 0),)), "w"), ("meet",), ("take", "x", ("s", (("is", 0),)))))
    return Kernel(1, (1, 2), (ONE, ONE), (("n", (0,)),), (), (("shared", "s", (1,)),), (("let", "w", "f", ()), loop))


def loops_around(kernel, point):
    return [(at, kernel.statements[at]) for at, side in kernel.around(point) if side is None]


def is_ahead(kernel, one, other):
    """Whether a step is ahead of another one, as the document says it."""
    first = dict(zip([at for at, _ in loops_around(kernel, one[0])], one[1]))
    second = dict(zip([at for at, _ in loops_around(kernel, other[0])], other[1]))
    for at, _ in loops_around(kernel, one[0]):
        if at in second and first[at] != second[at]:
            return first[at] < second[at]
    return one[0] < other[0]


def how_of(one, other):
    if one[1] == other[1]:
        return "same"
    axis = 0 if one[1][0] != other[1][0] else 1
    return f"{'less' if one[1][axis] < other[1][axis] else 'more'} {axis}"


def numbers_of(kernel, sizes, one, mark=""):
    found = samples.numbers_at(sizes)
    found.update({"block 0" + mark: one[1][0], "block 1" + mark: one[1][1]})
    for (_, loop), turn in zip(loops_around(kernel, one[0]), one[3]):
        if loop[0] == "long":
            found["turn " + loop[1] + mark] = turn
    return found


def case_number(kernel, sizes, one):
    """The index of the case of an instance that is there."""
    rests = tuple(sizes[name][1] for name, _ in kernel.sizes)
    shorts = tuple(turn for (_, loop), turn in zip(loops_around(kernel, one[0]), one[3]) if loop[0] == "short")
    point = numbers_of(kernel, sizes, one)
    for number, (choice, system) in enumerate(cases_of(kernel, one[0])):
        if choice[:3] == (one[2], shorts, rests) and is_point(system, point):
            return number
    return None


def pair_case(kernel, sizes, one, other):
    return ((one[0], case_number(kernel, sizes, one)), (other[0], case_number(kernel, sizes, other)), how_of(one, other))


class Steps(unittest.TestCase):
    def test_errors_in_order(self):
        kernel = example_kernel()
        for thing in samples.NO_KERNELS:
            with self.assertRaises(BadKernel):
                compared(thing, None, None)
        for step in (None, 5, (2,), [2, (0,)], (2, ()), (2, (0, 0)), (2, (True,)), (2, [0]), (5, ()), (-1, ()), (True, ()),
                     ("2", (0,)), (2, None)):
            with self.assertRaises(BadStep):
                compared(kernel, step, (2, (0,)))
            with self.assertRaises(BadStep):
                compared(kernel, (2, (0,)), step)

    def test_by_hand(self):
        kernel = example_kernel()
        for one, other, wanted in (((2, (0,)), (2, (0,)), 0), ((2, (0,)), (3, (0,)), -1), ((2, (1,)), (4, (0,)), 1),
                                   ((0, ()), (2, (-5,)), -1), ((1, ()), (2, (-5,)), -1), ((4, (9,)), (1, ()), 1)):
            self.assertEqual(compared(kernel, one, other), wanted)
            self.assertEqual(compared(kernel, other, one), -wanted)

    def test_gone_through(self):
        for seed in range(150):
            kernel = samples.made_kernel(seed, many=8)
            steps = []
            for point in range(len(kernel.statements)):
                for turns in itertools.product((-1, 0, 2), repeat=len(loops_around(kernel, point))):
                    steps.append((point, turns))
            r = random.Random(seed)
            for one, other in [(r.choice(steps), r.choice(steps)) for _ in range(60)]:
                wanted = 0 if one == other else -1 if is_ahead(kernel, one, other) else 1
                self.assertEqual(compared(kernel, one, other), wanted)
                self.assertEqual(is_ahead(kernel, one, other) and is_ahead(kernel, other, one), False)

    def test_lanes_come_to_steps_in_this_order(self):
        for seed in range(150):
            kernel = samples.made_kernel(seed, many=8)
            for sizes in samples.all_sizes_up_to(kernel, 2):
                plain = runs.Plain(kernel, sizes)
                for done in plain.lists.values():
                    for one, other in zip(done, done[1:]):
                        self.assertEqual(compared(kernel, (one[0], one[3]), (other[0], other[3])), -1)


class Between(unittest.TestCase):
    def test_errors_in_order(self):
        kernel = samples.shift_kernel(promises=(("n", None, 8),))
        sizes = {"n": (2, 0)}
        take = (0, B, B, ())
        for call in (meeting_between, are_beside):
            for thing in samples.NO_KERNELS:
                with self.assertRaises(BadKernel):
                    call(thing, None, None, None)
            for thing in samples.NO_SIZES_AT:
                with self.assertRaises(BadSizesAt):
                    call(kernel, thing, None, None)
            for thing in (None, 5, (0, (2, 0), B, ()), (3, B, B, ()), (0, B, B, (0,)), [0, B, B, ()], (False, B, B, ())):
                with self.assertRaises(BadInstance):
                    call(kernel, sizes, thing, None)
                with self.assertRaises(BadInstance):
                    call(kernel, sizes, take, thing)
        with self.assertRaises(OtherBlocks):
            meeting_between(kernel, sizes, take, (0, (1, 0), B, ()))
        for other in (take, (2, B, B, ()), (1, B, B, ())):
            with self.assertRaises(SameLane):
                are_beside(kernel, sizes, take, other)
        words = Kernel(1, (1, 2), (ONE, ONE), (), (), (("shared", "s", (1,)),), (
            ("let", "w", "f", ()), ("put", ("s", (("is", 0),)), "w"), ("if", ("small", ("is", 0), "less", ("is", 1)), (), ())))
        for point in (0, 2):
            with self.assertRaises(BadInstance):
                meeting_between(words, {}, (1, B, B, ()), (point, B, B, ()))

    def test_too_many(self):
        kernel = example_kernel()
        one, other = (2, B, (0, 0), (0,)), (4, B, (0, 1), (9,))
        for call in (meeting_between, are_beside):
            with self.assertRaises(TooMany) as caught:
                call(kernel, {"n": (9000, 0)}, one, other)
            self.assertEqual(caught.exception.most, 20000)

    def test_by_hand(self):
        kernel = samples.shift_kernel()
        sizes = {"n": (2, 0)}
        take, put, far = (0, B, (0, 1), ()), (2, B, (0, 0), ()), (2, (1, 0), (0, 0), ())
        self.assertEqual(meeting_between(kernel, sizes, take, put), (1, ()))
        self.assertEqual(meeting_between(kernel, sizes, put, take), (1, ()))
        self.assertIsNone(meeting_between(kernel, sizes, take, (0, B, (0, 0), ())))
        self.assertIsNone(meeting_between(kernel, sizes, take, (1, B, (0, 0), ())))
        self.assertIs(are_beside(kernel, sizes, take, put), False)
        self.assertIs(are_beside(kernel, sizes, take, far), True)
        self.assertIs(are_beside(kernel, sizes, (0, B, B, ()), take), True)
        loop = example_kernel()
        at = {"n": (6, 0)}
        for first, second in itertools.product(range(5), repeat=2):
            one, other = (2, B, (0, 0), (first,)), (4, B, (0, 1), (second,))
            found = meeting_between(loop, at, one, other)
            self.assertEqual(are_beside(loop, at, one, other), second == first - 1)
            if second >= first:
                self.assertEqual(found, (3, (first,)))
            elif second < first - 1:
                self.assertEqual(found, (3, (second + 1,)))

    def test_gone_through(self):
        for seed in range(120):
            kernel = samples.made_kernel(seed, many=8)
            words = [statement[0] for statement in kernel.statements]
            r = random.Random(seed)
            for sizes in samples.all_sizes_up_to(kernel, 2):
                plain = runs.Plain(kernel, sizes)
                every = [one for done in plain.lists.values() for one in done]
                for _ in range(25 if every else 0):
                    one, other = r.choice(every), r.choice(every)
                    steps = sorted([one, other], key=lambda own: plain_key(kernel, own))
                    found = [
                        own for own in instances(kernel, sizes, one[1], one[2]) if words[own[0]] == "meet"
                        and is_ahead(kernel, (steps[0][0], steps[0][3]), (own[0], own[3]))
                        and is_ahead(kernel, (own[0], own[3]), (steps[1][0], steps[1][3]))]
                    if one[1] == other[1]:
                        wanted = (found[0][0], found[0][3]) if found else None
                        self.assertEqual(meeting_between(kernel, sizes, one, other), wanted)
                    if one[1:3] != other[1:3]:
                        self.assertEqual(are_beside(kernel, sizes, one, other), one[1] != other[1] or not found)

    def test_side_by_side_is_what_orders_can_turn(self):
        told = 0
        for seed in range(400):
            kernel = samples.made_kernel(seed, many=6)
            for sizes in itertools.islice(samples.all_sizes_up_to(kernel, 1), 2):
                plain = runs.Plain(kernel, sizes)
                if not 2 <= len(plain.cells) <= 6:
                    continue
                orders = plain.orders(300)
                if orders is None or plain.outcome(orders[0])[0] != "done":
                    continue
                ways = set()
                for order in orders:
                    deeds = plain.deeds_of(order)
                    ways.update(itertools.combinations(deeds, 2))
                for one, other in itertools.permutations(plain.cells, 2):
                    if one[1:3] != other[1:3]:
                        both = (one, other) in ways and (other, one) in ways
                        self.assertEqual(are_beside(kernel, sizes, one, other), both)
                        told += 1
        self.assertGreater(told, 300)


def plain_key(kernel, one):
    """A key that puts instances in the order of their steps."""
    found = []
    for (at, _), turn in zip(loops_around(kernel, one[0]), one[3]):
        found += [at, turn]
    return found + [one[0]]


class Sayings(unittest.TestCase):
    def test_errors(self):
        kernel = example_kernel()
        for thing in samples.NO_KERNELS:
            with self.assertRaises(BadKernel):
                beside(thing, None)
        good = ((2, 0), (4, 1), "same")
        self.assertTrue(is_saying(beside(kernel, good)))
        for case in (None, 5, list(good), good[:2], ((2, 0), (4, 1), "equal"), ((2, 0), (4, 1), None),
                     ((2, 0), (4, 0), "same"), ((3, 0), (4, 1), "same"), ((0, 0), (4, 1), "same"), ((2, 2), (4, 1), "same"),
                     ((2, -1), (4, 0), "same"), ((2, 0), (4, -1), "same"), ((2, 0), (4, 2), "same"), ((2, False), (4, 1), "same"),
                      ([2, 0], (4, 1), "same"), ((2,), (4, 1), "same"),
                     ((2, 0), (4, 1), ["same"]), ((9, 0), (4, 1), "same")):
            with self.assertRaises(BadPair):
                beside(kernel, case)
        rests = samples.shift_kernel(rests=(0, 1))
        self.assertEqual(cases_of(rests, 0)[1][0][2], (1,))
        with self.assertRaises(BadPair):
            beside(rests, ((0, 0), (2, 1), "less 0"))
        beside(rests, ((0, 0), (2, 0), "less 0"))

    def test_rows_of_how_and_of_the_base(self):
        kernel = samples.shift_kernel(meets=False, promises=(("n", None, 7),))
        first, second = cases_of(kernel, 0)[0][1], cases_of(kernel, 1)[1][1]
        for how, rows in (
                ("same", [("block 0", "block 0 b", 0), ("block 0 b", "block 0", 0),
                          ("block 1", "block 1 b", 0), ("block 1 b", "block 1", 0)]),
                ("less 0", [("block 0", "block 0 b", -1)]), ("more 0", [("block 0 b", "block 0", -1)]),
                ("less 1", [("block 0", "block 0 b", 0), ("block 0 b", "block 0", 0), ("block 1", "block 1 b", -1)]),
                ("more 1", [("block 0", "block 0 b", 0), ("block 0 b", "block 0", 0), ("block 1 b", "block 1", -1)])):
            base = first + marked(second)[2:] + rows
            wanted = ("and", tuple(("row", a, b, c) for a, b, c in base))
            self.assertEqual(beside(kernel, ((0, 0), (1, 1), how)), wanted)

    def test_words_of_a_meeting(self):
        kernel = example_kernel()
        saying = beside(kernel, ((2, 0), (4, 1), "same"))
        one, it, other = "turn t", "Turn t", "turn t b"

        def ahead(x, y, later):
            return ("or", (("row", x, y, -1), ("and", (("row", x, y, 0), ("row", y, x, 0), later))))

        always, never = ("and", ()), ("or", ())
        inner = ("and", (
            ("row", None, it, 0), ("row", it, "tiles n", -1),
            ("or", (("and", (ahead(one, it, always), ahead(it, other, always))),
                    ("and", (ahead(other, it, never), ahead(it, one, never)))))))
        self.assertEqual(saying[0], "and")
        self.assertEqual(saying[1][-1], ("not", ("some", (it,), inner)))
        self.assertEqual([part[0] for part in saying[1]], ["row"] * (len(saying[1]) - 1) + ["not"])

    def test_rows_of_sizes_promises_and_blocks_are_left_out_of_meetings(self):
        plain = example_kernel()
        kernel = Kernel(1, (1, 2), (("tiles", "n", 0), ONE), plain.sizes, (("n", None, 9), (None, "n", 0)), plain.arrays,
                        plain.body)
        case = ((2, 0), (4, 1), "same")
        self.assertEqual(beside(kernel, case)[1][-1], beside(plain, case)[1][-1])

    def test_short_loops_in_ahead(self):
        loop = ("short", "k", 2, (("put", ("s", (("is", 0),)), "w"), ("meet",)))
        kernel = Kernel(1, (1, 2), (ONE, ONE), (), (), (("shared", "s", (1,)),), (("let", "w", "f", ()), loop))
        choices = [choice for choice, _ in cases_of(kernel, 2)]
        always, never = ("and", ()), ("or", ())
        saying = beside(kernel, ((2, choices.index(((0, 0), (0,), (), ()))), (2, choices.index(((0, 1), (1,), (), ()))), "same"))
        meetings = [part for part in saying[1] if part[0] == "not"]

        def one(first, second, third, fourth):
            return ("not", ("and", (("or", (("and", (first, second)), ("and", (third, fourth)))),)))

        self.assertEqual(meetings, [one(always, always, never, never), one(always, never, always, never)])

    def test_example(self):
        kernel = example_kernel()
        case = ((2, 0), (4, 1), "same")
        saying = beside(kernel, case)
        base = ("and", saying[1][:-1])
        less = ("and", (base, ("row", "turn t b", "turn t", -1), ("row", "turn t", "turn t b", 1)))
        self.assertTrue(is_within(saying, less) and is_within(less, saying))

    def test_holds_exactly_where_both_are_side_by_side(self):
        told = [0, 0, 0]
        for seed in range(250):
            kernel = samples.made_kernel(seed, many=8)
            words = [statement[0] for statement in kernel.statements]
            r = random.Random(seed)
            for sizes in itertools.islice(samples.all_sizes_up_to(kernel, 2), 4):
                plain = runs.Plain(kernel, sizes)
                deeds = [one for done in plain.lists.values() for one in done if words[one[0]] in DEEDS]
                for _ in range(8 if len(deeds) > 1 else 0):
                    one, other = r.sample(deeds, 2)
                    if one[1:3] == other[1:3]:
                        continue
                    case = pair_case(kernel, sizes, one, other)
                    saying = beside(kernel, case)
                    self.assertTrue(is_saying(saying))
                    point = {**numbers_of(kernel, sizes, one), **numbers_of(kernel, sizes, other, " b")}
                    point = {name: point[name] for name in free_names(saying)}
                    found = holds(saying, point)
                    self.assertEqual(found, are_beside(kernel, sizes, one, other), (seed, sizes, one, other))
                    told[found] += 1
                    name = r.choice(sorted(point))
                    moved = {**point, name: point[name] + r.choice((-9, 9))}
                    if not is_point(cases_of(kernel, one[0])[case[0][1]][1], {
                            own: moved[own] for own in numbers_of(kernel, sizes, one)}):
                        self.assertIs(holds(saying, moved), False)
                        told[2] += 1
        self.assertTrue(min(told) > 60, told)


if __name__ == "__main__":
    unittest.main()
