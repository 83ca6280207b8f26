"""Points [40] to [42]: instances at given sizes, cases for all sizes, one cell."""

import itertools
import unittest

import samples
from lanesmeet.differences import is_point, is_system
from lanesmeet.errors import (
    BadBlock, BadChoice, BadInstance, BadKernel, BadLane, BadPoint, BadSizesAt, BadSystem, TooMany)
from lanesmeet.kernels import Kernel
from lanesmeet.meaning import cases_of, cell_of, instances, is_there, marked, same_cell

ONE = samples.ONE
DEEDS = ("take", "put", "add")


def number(small, lane, turns, rests):
    """What a small means, said again."""
    word = small[0]
    if word in ("plus", "minus", "times", "over", "rest of"):
        left = number(small[1], lane, turns, rests)
        right = small[2] if word in ("over", "rest of") else number(small[2], lane, turns, rests)
        return {"plus": left + right, "minus": left - right, "times": left * right,
                "over": left // right if right else 0, "rest of": left % right if right else 0}[word]
    return {"is": lambda: small[1], "lane": lambda: lane[small[1]], "turn": lambda: turns[small[1]],
            "rest": lambda: rests[small[1]]}[word]()


def large(form, block, turns, sizes):
    word, name, more = form
    return more + {"none": lambda: 0, "block": lambda: block[name], "turn": lambda: turns[name],
                   "tiles": lambda: sizes[name][0]}[word]()


class Ground:
    """The meaning of a kernel at sizes, gone through in the plainest way."""

    def __init__(self, kernel, sizes):
        self.kernel = kernel
        self.sizes = sizes
        self.rests = {name: pair[1] for name, pair in sizes.items()}

    def spot(self, spot, block, lane, turns):
        return (self.kernel.width * large(spot[0], block, turns, self.sizes)
                + number(spot[1], lane, turns, self.rests))

    def guard(self, guard, block, lane, turns):
        word = guard[0]
        if word == "small":
            left, right = (number(guard[k], lane, turns, self.rests) for k in (1, 3))
            return {"less": left < right, "atmost": left <= right, "same": left == right}[guard[2]]
        if word == "order":
            return self.spot(guard[1], block, lane, turns) <= self.spot(guard[2], block, lane, turns)
        if word == "within":
            tiles, rest = self.sizes[guard[2]]
            return 0 <= self.spot(guard[1], block, lane, turns) < self.kernel.width * tiles + rest
        parts = [self.guard(inner, block, lane, turns) for inner in guard[1:]]
        return {"not": not parts[0], "and": all(parts), "or": any(parts)}[word]

    def all_of(self, block, lane):
        """All instances of all statements of a lane, in order, with points counted anew."""
        found = []

        def go(body, point, turns, path):
            for statement in body:
                found.append((point, block, lane, path))
                word = statement[0]
                if word == "short":
                    for turn in range(statement[2]):
                        go(statement[3], point + 1, {**turns, statement[1]: turn}, path + (turn,))
                if word == "long":
                    low, high = (large(form, block, turns, self.sizes) for form in statement[2:4])
                    for turn in range(low, high):
                        go(statement[4], point + 1, {**turns, statement[1]: turn}, path + (turn,))
                if word == "if":
                    if self.guard(statement[1], block, lane, turns):
                        go(statement[2], point + 1, turns, path)
                    else:
                        go(statement[3], point + 1 + count(statement[2]), turns, path)
                point += count((statement,))

        go(self.kernel.body, 0, {}, ())
        return found

    def blocks(self):
        counts = [large(form, (0, 0), {}, self.sizes) for form in self.kernel.blocks]
        return [(y, x) for y in range(counts[0]) for x in range(counts[1])]

    def cell(self, instance):
        statement = self.kernel.statements[instance[0]]
        array, where = statement[2] if statement[0] == "take" else statement[1]
        _, block, lane, path = instance
        names = [self.kernel.statements[at][1] for at, side in self.kernel.around(instance[0]) if side is None]
        turns = dict(zip(names, path))
        if ("shared", array) in [(sort, name) for sort, name, _ in self.kernel.arrays]:
            return (array, tuple(number(small, lane, turns, self.rests) for small in where), block)
        numbers = [self.spot(spot, block, lane, turns) for spot in where]
        return (array, tuple(divmod(at, self.kernel.width) for at in numbers))


def count(body):
    total = 0
    for statement in body:
        total += 1 + sum(count(block) for block in statement[1:] if statement[0] in ("short", "long", "if")
                         and isinstance(block, tuple) and (not block or isinstance(block[0], tuple))
                         and block is not statement[1])
    return total


def lanes_of(kernel):
    return list(itertools.product(range(kernel.lanes[0]), range(kernel.lanes[1])))


def loops_around(kernel, point):
    return [kernel.statements[at] for at, side in kernel.around(point) if side is None]


def numbers_of(kernel, sizes, instance, mark=""):
    """The names of a case, with the numbers of an instance."""
    point, block, _, turns = instance
    found = samples.numbers_at(sizes)
    found.update({"block 0" + mark: block[0], "block 1" + mark: block[1]})
    for loop, turn in zip(loops_around(kernel, point), turns):
        if loop[0] == "long":
            found["turn " + loop[1] + mark] = turn
    return found


def short_turns(kernel, instance):
    loops = loops_around(kernel, instance[0])
    return tuple(turn for loop, turn in zip(loops, instance[3]) if loop[0] == "short")


def kernels(numbers, **other):
    for seed in numbers:
        yield seed, samples.made_kernel(seed, **other)


class Instances(unittest.TestCase):
    def test_errors_in_order(self):
        kernel = samples.shift_kernel(promises=(("n", None, 8),))
        good = {"n": (2, 0)}
        for thing in samples.NO_KERNELS:
            for call in (lambda: instances(thing, 0, 0, 0), lambda: is_there(thing, 0, 0), lambda: cell_of(thing, 0, 0),
                         lambda: cases_of(thing, 0), lambda: same_cell(thing, 0, 0, 0, 0)):
                with self.assertRaises(BadKernel):
                    call()
        for sizes in samples.NO_SIZES_AT:
            for call in (lambda: instances(kernel, sizes, 0, 0), lambda: is_there(kernel, sizes, 0),
                         lambda: cell_of(kernel, sizes, 0)):
                with self.assertRaises(BadSizesAt):
                    call()
        two = Kernel(2, (1, 1), (ONE, ONE), (("n", (0,)), ("m", (1,))), (("m", "n", -1), (None, "m", -1)), (), ())
        for n, m in itertools.product(range(4), repeat=2):
            sizes = {"m": (m, 1), "n": (n, 0)}
            if 1 <= m < n:
                self.assertEqual(instances(two, sizes, (0, 0), (0, 0)), [])
                continue
            with self.assertRaises(BadSizesAt):
                instances(two, sizes, (0, 0), (0, 0))
        for thing in ({"n": ("3", 0), "m": (1, 1)}, {"n": (None, 0), "m": (1, 1)}, {"n": (3, None), "m": (1, 1)}):
            with self.assertRaises(BadSizesAt):
                instances(two, thing, (0, 0), (0, 0))
        for block in (None, 0, (2, 0), (0, 1), (-1, 0), [0, 0], (True, 0), (0,), (0, 0, 0)):
            with self.assertRaises(BadBlock):
                instances(kernel, good, block, None)
        for lane in (None, 0, (1, 0), (0, 4), (0, -1), [0, 0], (False, 0), (0,)):
            with self.assertRaises(BadLane):
                instances(kernel, good, (0, 0), lane)

    def test_too_many(self):
        body = (("long", "t", ("none", None, 0), ("tiles", "n", 0), (("meet",),)),)
        kernel = Kernel(1, (1, 1), (ONE, ONE), (("n", (0,)),), (), (), body)
        self.assertEqual(len(instances(kernel, {"n": (20000, 0)}, (0, 0), (0, 0))), 20000)
        with self.assertRaises(TooMany) as caught:
            instances(kernel, {"n": (999999999, 0)}, (0, 0), (0, 0))
        self.assertEqual(caught.exception.most, 20000)
        with self.assertRaises(BadLane):
            instances(kernel, {"n": (999999999, 0)}, (0, 0), (1, 0))
        empty = Kernel(1, (1, 1), (ONE, ONE), (("n", (0,)),), (), (), (
            ("long", "t", ("none", None, 0), ("tiles", "n", 0), (("let", "x", "f", ()),)),))
        self.assertEqual(instances(empty, {"n": (999999999, 0)}, (0, 0), (0, 0)), [])

    def test_gone_through(self):
        for seed, kernel in kernels(range(400)):
            words = [statement[0] for statement in kernel.statements]
            for sizes in samples.all_sizes_up_to(kernel, 2):
                ground = Ground(kernel, sizes)
                for block in ground.blocks()[:3]:
                    for lane in lanes_of(kernel):
                        every = ground.all_of(block, lane)
                        wanted = [one for one in every if words[one[0]] in DEEDS + ("meet",)]
                        self.assertEqual(instances(kernel, sizes, block, lane), wanted, (seed, sizes))
                        for one in every:
                            self.assertIs(is_there(kernel, sizes, one), True)
                            if words[one[0]] in DEEDS:
                                self.assertEqual(cell_of(kernel, sizes, one), ground.cell(one))

    def test_what_is_not_there(self):
        for seed, kernel in kernels(range(150)):
            sizes = next(samples.all_sizes_up_to(kernel, 2), None)
            if sizes is None:
                continue
            ground = Ground(kernel, sizes)
            every = {one for block in ground.blocks() for lane in lanes_of(kernel) for one in ground.all_of(block, lane)}
            for point in range(len(kernel.statements)):
                loops = len(loops_around(kernel, point))
                for block in ((-1, 0), (0, 0), (1, 0), (0, 1)):
                    for lane in ((0, 0), (0, 1), (1, 0), (0, 4)):
                        for turns in itertools.product((-1, 0, 1, 2), repeat=loops):
                            one = (point, block, lane, turns)
                            self.assertEqual(is_there(kernel, sizes, one), one in every, (seed, sizes, one))

    def test_is_there_of_any_value(self):
        kernel = samples.shift_kernel()
        sizes = {"n": (2, 0)}
        self.assertIs(is_there(kernel, sizes, (0, (1, 0), (0, 3), ())), True)
        for thing in (None, 5, (), [0, (1, 0), (0, 3), ()], (0, (1, 0), (0, 3)), (0, (1, 0), (0, 3), (0,)),
                      (3, (1, 0), (0, 3), ()), (-1, (1, 0), (0, 3), ()), (False, (1, 0), (0, 3), ()),
                      (0, (True, 0), (0, 3), ()), (0, (1, 0), (False, 3), ()), (0, [1, 0], (0, 3), ()),
                      (0, (1, 0), (0, 3), []), (0, (2, 0), (0, 3), ()), ("0", (1, 0), (0, 3), ()), kernel):
            self.assertIs(is_there(kernel, sizes, thing), False)
            with self.assertRaises(BadInstance):
                cell_of(kernel, sizes, thing)
        with self.assertRaises(BadInstance):
            cell_of(kernel, sizes, (1, (0, 0), (0, 0), ()))
        self.assertEqual(cell_of(kernel, sizes, (2, (1, 0), (0, 3), ())), ("a", ((2, 0),)))

    def test_cells_by_hand(self):
        body = (("take", "x", ("a", ((("tiles", "n", -1), ("minus", ("lane", 1), ("is", 5))),))),
                ("put", ("s", (("minus", ("lane", 1), ("is", 5)), ("lane", 1))), "x"))
        kernel = Kernel(4, (1, 4), (ONE, ONE), (("n", (0,)),), (), (("far", "a", ("n",)), ("shared", "s", (2, 2))), body)
        sizes = {"n": (0, 0)}
        self.assertEqual(cell_of(kernel, sizes, (0, (0, 0), (0, 0), ())), ("a", ((-3, 3),)))
        self.assertEqual(cell_of(kernel, sizes, (1, (0, 0), (0, 3), ())), ("s", (-2, 3), (0, 0)))


class Cases(unittest.TestCase):
    def test_by_hand(self):
        kernel = samples.shift_kernel(promises=(("n", None, 5), (None, "n", 0)))
        rows = [(None, "tiles n", 0), ("tiles n", None, 5), (None, "tiles n", 0), (None, "block 0", 0),
                ("block 0", "tiles n", -1), (None, "block 1", 0), ("block 1", None, 0)]
        self.assertEqual(cases_of(kernel, 1), [(((0, lane), (), (0,), ()), rows) for lane in range(4)])

    def test_loops_and_ifs_by_hand(self):
        within = ("within", (("turn", "t", 1), ("minus", ("lane", 0), ("turn", "k"))), "n")
        order = ("or", ("order", (("block", 0, 0), ("is", 3)), (("tiles", "n", -2), ("is", 0))), within)
        take = ("take", "x", ("a", ((("turn", "t", 0), ("is", 0)),)))
        loop = ("long", "t", ("block", 0, 1), ("tiles", "n", 2), (("short", "k", 2, (
            ("if", within, (take,), (take,)), ("if", order, (), (take,)))),))
        kernel = Kernel(2, (1, 1), (("tiles", "n", 0), ONE), (("n", (1,)),), (), (("far", "a", ("n",)),), (loop,))
        head = [(None, "tiles n", 0), (None, "block 0", 0), ("block 0", "tiles n", -1), (None, "block 1", 0),
                ("block 1", None, 0), ("block 0", "turn t", -1), ("turn t", "tiles n", 1)]
        low = {0: (None, "turn t", 1), 1: (None, "turn t", 0)}
        high = {0: ("turn t", "tiles n", -1), 1: ("turn t", "tiles n", -1)}
        high[1] = ("turn t", "tiles n", (1 + 1 - 1) // 2 - 1)
        no_low = {turn: ("turn t", None, -low[turn][2] - 1) for turn in low}
        no_high = {turn: ("tiles n", "turn t", -high[turn][2] - 1) for turn in high}
        lane = (0, 0)
        self.assertEqual(cases_of(kernel, 3), [
            ((lane, (turn,), (1,), (0,)), head + [low[turn], high[turn]]) for turn in (0, 1)])
        self.assertEqual(cases_of(kernel, 4), [
            ((lane, (turn,), (1,), (side,)), head + [row]) for turn in (0, 1)
            for side, row in enumerate((no_low[turn], no_high[turn]))])
        not_order = ("tiles n", "block 0", -((0 - 3) // 2 - 2) - 1)
        self.assertEqual(cases_of(kernel, 6), [
            ((lane, (turn,), (1,), (side,)), head + [not_order, row]) for turn in (0, 1)
            for side, row in enumerate((no_low[turn], no_high[turn]))])

    def test_parts_by_hand(self):
        def parts(guard, side):
            take = ("meet",)
            kernel = Kernel(2, (1, 1), (ONE, ONE), (("n", (0,)), ("m", (0,))), (), (), (("if", guard, (take,), (take,)),))
            return [(choice[3][0], rows[6:]) for choice, rows in cases_of(kernel, 1 + side)]

        first = ("order", (("tiles", "n", 0), ("is", 0)), (("tiles", "m", 1), ("is", -1)))
        row, turned = ("tiles n", "tiles m", 0), ("tiles m", "tiles n", -1)
        second = ("within", (("tiles", "m", 0), ("is", 1)), "n")
        low, high = (None, "tiles m", 0), ("tiles m", "tiles n", -1)
        no_low, no_high = ("tiles m", None, -1), ("tiles n", "tiles m", 0)
        never = ("small", ("is", 1), "less", ("is", 1))
        always = ("small", ("is", 1), "atmost", ("is", 1))
        for guard, yes, no in (
                (first, [[row]], [[turned]]), (second, [[low, high]], [[no_low], [no_high]]),
                (never, [], [[]]), (always, [[]], []), (("not", first), [[turned]], [[row]]),
                (("and", first, second), [[row, low, high]], [[turned], [row, no_low], [row, no_high]]),
                (("and", second, first), [[low, high, row]], [[no_low], [no_high], [low, high, turned]]),
                (("or", first, second), [[row], [turned, low, high]], [[turned, no_low], [turned, no_high]]),
                (("or", second, second), [[low, high], [no_low, low, high], [no_high, low, high]],
                 [[no_low, no_low], [no_low, no_high], [no_high, no_low], [no_high, no_high]]),
                (("not", ("or", never, second)), [[no_low], [no_high]], [[low, high]]),
                (("and", never, second), [], [[]]), (("or", always, second), [[]], []),
                (("order", (("tiles", "n", 0), ("is", 3)), (("tiles", "n", 1), ("is", 0))), [], [[]]),
                (("order", (("none", None, 3), ("is", 3)), (("none", None, 5), ("is", -1))), [[]], []),
                (("within", (("tiles", "n", -1), ("is", 0)), "n"), [[(None, "tiles n", -1)]], [[("tiles n", None, 0)]]),
                (("within", (("tiles", "n", 0), ("is", 0)), "n"), [], [[("tiles n", None, -1)], []]),
                (("within", (("none", None, 0), ("is", 3)), "n"), [[(None, "tiles n", -2)]], [[("tiles n", None, 1)]])):
            self.assertEqual(parts(guard, 0), list(enumerate(yes)), guard)
            self.assertEqual(parts(guard, 1), list(enumerate(no)), guard)

    def test_an_instance_is_there_exactly_if_just_one_case_has_it(self):
        for seed, kernel in kernels(range(1000, 1160)):
            told = [cases_of(kernel, point) for point in range(len(kernel.statements))]
            for point, cases in enumerate(told):
                choices = [choice for choice, _ in cases]
                self.assertEqual(choices, sorted(choices))
                self.assertEqual(len(set(choices)), len(choices))
                self.assertTrue(all(is_system(system) and isinstance(system, list) for _, system in cases))
            for sizes in samples.all_sizes_up_to(kernel, 1):
                rests = tuple(sizes[name][1] for name, _ in kernel.sizes)
                for point, cases in enumerate(told):
                    loops = len(loops_around(kernel, point))
                    for block, lane in itertools.product(((-1, 0), (0, 0), (1, 0), (0, 1)), lanes_of(kernel)):
                        for turns in itertools.product((-1, 0, 1), repeat=loops):
                            one = (point, block, lane, turns)
                            found = [
                                choice for choice, system in cases
                                if choice[:3] == (lane, short_turns(kernel, one), rests)
                                and is_point(system, numbers_of(kernel, sizes, one))]
                            wanted = 1 if is_there(kernel, sizes, one) else 0
                            self.assertEqual(len(found), wanted, (seed, sizes, one))

    def test_errors(self):
        kernel = samples.shift_kernel()
        for point in (None, 3, -1, True, "0", (0,)):
            with self.assertRaises(BadPoint):
                cases_of(kernel, point)
        many = ("meet",)
        for name in "klm":
            many = ("short", name, 8, (many,))
        sizes = (("n", tuple(range(8))),)
        kernel = Kernel(8, (2, 8), (ONE, ONE), sizes, (), (), (many,))
        self.assertEqual(len(cases_of(kernel, 2)), 16 * 64 * 8)
        with self.assertRaises(TooMany) as caught:
            cases_of(kernel, 3)
        self.assertEqual(caught.exception.most, 20000)

    def test_results_are_new(self):
        kernel = samples.shift_kernel()
        found = cases_of(kernel, 0)
        found[0][1].append(5)
        found.pop()
        self.assertEqual(len(cases_of(kernel, 0)), 4)
        self.assertEqual(len(cases_of(kernel, 0)[0][1]), 5)

    def test_marked(self):
        rows = [("block 0", "turn t", 1), ("tiles n", "block 1", 2), (None, "turn", 3), ("blocks", "x", 4)]
        wanted = [("block 0 b", "turn t b", 1), ("tiles n", "block 1 b", 2), (None, "turn", 3), ("blocks", "x", 4)]
        self.assertEqual(marked(rows), wanted)
        self.assertEqual(marked(tuple(rows)), wanted)
        for thing in (None, 5, [("x", "x", 1)], [5]):
            with self.assertRaises(BadSystem):
                marked(thing)


class SameCells(unittest.TestCase):
    def test_errors_in_order(self):
        kernel = samples.shift_kernel(rests=(0, 1))
        good = ((0, 0), (), (0,), ())
        for point in (None, 1, 3, -1, True):
            with self.assertRaises(BadPoint):
                same_cell(kernel, point, None, None, None)
            with self.assertRaises(BadPoint):
                same_cell(kernel, 0, good, point, None)
        for choice in (None, 5, list(good), good[:3], ((0, 4), (), (0,), ()), ((0, 0), (0,), (0,), ()),
                       ((0, 0), (), (2,), ()), ((0, 0), (), (0,), (0,)), ((0, False), (), (0,), ()),
                       ((0, 0), (), (False,), ()), ((0, 0), (), (0, 0), ()), ([0, 0], (), (0,), ())):
            with self.assertRaises(BadChoice):
                same_cell(kernel, 0, choice, None, None)
            with self.assertRaises(BadChoice):
                same_cell(kernel, 0, good, 2, choice)
        with self.assertRaises(BadChoice):
            same_cell(kernel, 0, good, 2, ((0, 0), (), (1,), ()))
        guard = ("within", (("none", None, 0), ("is", 0)), "n")
        ifs = Kernel(4, (1, 1), (ONE, ONE), (("n", (0,)),), (), (("far", "a", ("n",)),), (
            ("if", guard, (("take", "x", ("a", ((("none", None, 0), ("is", 0)),))),), ()),))
        self.assertEqual(same_cell(ifs, 1, ((0, 0), (), (0,), (0,)), 1, ((0, 0), (), (0,), (0,))), [])
        for side in (1, -1, True, False, None):
            with self.assertRaises(BadChoice):
                same_cell(ifs, 1, ((0, 0), (), (0,), (side,)), 1, ((0, 0), (), (0,), (0,)))
        take = ("take", "x", ("s", (("turn", "k"),)))
        short = Kernel(1, (1, 1), (ONE, ONE), (), (), (("shared", "s", (2,)),), (("short", "k", 2, (take,)),))
        good = ((0, 0), (1,), (), ())
        self.assertEqual(same_cell(short, 1, good, 1, good), [])
        for turns in ((2,), (-1,), (True,), (), (0, 0), None, [1]):
            with self.assertRaises(BadChoice):
                same_cell(short, 1, ((0, 0), turns, (), ()), 1, good)
            with self.assertRaises(BadChoice):
                same_cell(short, 1, good, 1, ((0, 0), turns, (), ()))

    def test_by_hand(self):
        kernel = samples.shift_kernel()
        lane = [((0, at), (), (0,), ()) for at in range(4)]
        self.assertEqual(same_cell(kernel, 0, lane[1], 2, lane[0]), [("block 0", "block 0 b", 0), ("block 0 b", "block 0", 0)])
        self.assertEqual(same_cell(kernel, 0, lane[0], 2, lane[3]), [("block 0", "block 0 b", 1), ("block 0 b", "block 0", -1)])
        self.assertIsNone(same_cell(kernel, 0, lane[0], 2, lane[0]))
        body = (("take", "x", ("a", ((("tiles", "n", 0), ("lane", 1)),))),
                ("take", "x", ("a", ((("tiles", "n", 1), ("lane", 1)),))),
                ("take", "x", ("b", ((("tiles", "n", 0), ("lane", 1)),))),
                ("take", "x", ("s", (("lane", 1),))), ("take", "x", ("s", (("is", 1),))))
        arrays = (("far", "a", ("n",)), ("far", "b", ("n",)), ("shared", "s", (4,)))
        other = Kernel(4, (1, 4), (ONE, ONE), (("n", (0,)),), (), arrays, body)
        self.assertEqual(same_cell(other, 0, lane[1], 0, lane[1]), [])
        self.assertIsNone(same_cell(other, 0, lane[1], 1, lane[1]))
        self.assertIsNone(same_cell(other, 0, lane[1], 2, lane[1]))
        self.assertIsNone(same_cell(other, 0, lane[1], 3, lane[1]))
        self.assertEqual(same_cell(other, 3, lane[1], 4, lane[3]), [])
        self.assertIsNone(same_cell(other, 3, lane[2], 4, lane[3]))

    def test_gone_through(self):
        told = 0
        for seed, kernel in kernels(range(2000, 2100)):
            words = [statement[0] for statement in kernel.statements]
            for sizes in itertools.islice(samples.all_sizes_up_to(kernel, 2), 3):
                ground = Ground(kernel, sizes)
                rests = tuple(sizes[name][1] for name, _ in kernel.sizes)
                deeds = [one for block in ground.blocks()[:3] for lane in lanes_of(kernel)
                         for one in instances(kernel, sizes, block, lane) if words[one[0]] in DEEDS][:12]
                chosen = [self.choice(kernel, sizes, rests, one) for one in deeds]
                for (one, first), (other, second) in itertools.product(list(zip(deeds, chosen)), repeat=2):
                    rows = same_cell(kernel, one[0], first, other[0], second)
                    point = {**numbers_of(kernel, sizes, one), **numbers_of(kernel, sizes, other, " b"), None: 0}
                    holds = rows is not None and all(point[a] - point[b] <= c for a, b, c in rows)
                    if len(cell_of(kernel, sizes, one)) == 3:
                        holds = holds and one[1] == other[1]
                    self.assertEqual(holds, cell_of(kernel, sizes, one) == cell_of(kernel, sizes, other), (seed, one, other))
                    told += holds
        self.assertGreater(told, 500)

    def choice(self, kernel, sizes, rests, one):
        for choice, system in cases_of(kernel, one[0]):
            if choice[:3] == (one[2], short_turns(kernel, one), rests):
                if is_point(system, numbers_of(kernel, sizes, one)):
                    return choice
        return None


if __name__ == "__main__":
    unittest.main()
