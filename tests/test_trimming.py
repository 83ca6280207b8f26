"""Points [92] and [93]: what never comes, and shields."""

import itertools
import unittest

import places
import runs
import samples
from lanesmeet.differences import least_point, ring
from lanesmeet.edges import beyond
from lanesmeet.errors import BadBody, BadKernel, BadPoint, TooMany
from lanesmeet.kernels import Kernel
from lanesmeet.meaning import cases_of, instances, is_there
from lanesmeet.trimming import shielded, sides, trimmed

ONE = samples.ONE
B = (0, 0)
LANE = ("lane", 1)
BLOCK = ("block", 0, 0)
LET = ("let", "x", "f", ())
NEVER = ("small", ("is", 1), "less", ("is", 1))
ALWAYS = ("small", ("is", 1), "same", ("is", 1))
LOW = ("small", LANE, "same", ("is", 0))


def kernel_of(body, **change):
    told = {"width": 4, "lanes": (1, 4), "blocks": (("tiles", "n", 1), ONE), "sizes": (("n", (0, 1)),),
            "promises": (), "arrays": (("far", "a", ("n",)), ("shared", "s", (4, 2))), "body": body}
    return Kernel(**{**told, **change})


def like(kernel, body):
    return Kernel(kernel.width, kernel.lanes, kernel.blocks, kernel.sizes, kernel.promises, kernel.arrays, body)


def made(seed):
    return samples.made_kernel(seed, many=8)


def if_points(kernel):
    return [point for point, statement in enumerate(kernel.statements) if statement[0] == "if"]


def probed(kernel, point, side):
    """The kernel with one let more at the head of a side of an if, and the point of the let."""
    count = [-1]

    def walk(block):
        found = []
        for statement in block:
            count[0] += 1
            own = count[0]
            if statement[0] == "if":
                blocks = []
                for at in (0, 1):
                    inner = walk(statement[2 + at])
                    blocks.append((("let", "w", "f", ()),) + inner if (own, at) == (point, side) else inner)
                statement = statement[:2] + tuple(blocks)
            elif statement[0] in ("short", "long"):
                statement = statement[:-1] + (walk(statement[-1]),)
            found.append(statement)
        return tuple(found)

    body = walk(kernel.body)
    found = like(kernel, body)
    changed = [at for at in range(len(found.statements)) if found.around(at)[-1:] == ((point, side),)]
    return found, changed[0]


def first_side(kernel, point, side):
    """What sides tells of one side, by the cases of a statement there."""
    probe, at = probed(kernel, point, side)
    for choice, system in cases_of(probe, at):
        if ring(system) is None:
            numbers = least_point(system)
            _, block, lane, turns = places.instance_by(probe, at, choice, numbers)
            return places.sizes_by(kernel, choice[2], numbers), block, lane, turns
    return None


def is_ever_there(kernel, point):
    return any(ring(system) is None for _, system in cases_of(kernel, point))


def plain_trimmed(kernel):
    """The trimmed body and its old points, by the words of the point."""
    count = [-1]

    def walk(block):
        body, points = [], []
        for statement in block:
            count[0] += 1
            own = count[0]
            inner = []
            if statement[0] == "if":
                inner = [walk(statement[2]), walk(statement[3])]
            if statement[0] in ("short", "long"):
                inner = [walk(statement[-1])]
            if not is_ever_there(kernel, own):
                continue
            gone = [first_side(kernel, own, side) is not None for side in (0, 1)] if statement[0] == "if" else []
            if gone.count(True) == 1:
                body += inner[gone.index(True)][0]
                points += inner[gone.index(True)][1]
                continue
            if inner:
                statement = statement[:len(statement) - len(inner)] + tuple(tuple(part) for part, _ in inner)
            body.append(statement)
            points += [own] + [at for _, later in inner for at in later]
        return body, points

    body, points = walk(kernel.body)
    return tuple(body), tuple(points)


def told_by(points, done):
    """Instances told with the old points."""
    return [(points[one[0]],) + one[1:] for one in done]


def loose_axes(kernel, every, point):
    """The loose axes of a deed, by all its instances."""
    count = len(places.array_at(kernel, point)[2])
    beyonds = {tuple(places.beyond_axes(kernel, sizes, one)) for sizes, one in every if one[0] == point}
    for many in range(count + 1):
        for axes in itertools.combinations(range(count), many):
            if all(set(axes) & set(own) or not set(own) - set(axes) for own in beyonds):
                return axes
    return None


def shield(kernel, point, axes):
    sort, _, counts = places.array_at(kernel, point)
    guards = []
    for axis in axes:
        part = places.place_of(kernel.statements[point])[1][axis]
        if sort == "far":
            guards.append(("within", part, counts[axis]))
        else:
            guards.append(("and", ("small", ("is", 0), "atmost", part), ("small", part, "less", ("is", counts[axis]))))
    return guards[0] if len(guards) == 1 else ("and", guards[0], guards[1])


class Errors(unittest.TestCase):
    def test_errors(self):
        for thing in samples.NO_KERNELS:
            for call in (lambda: sides(thing, None), lambda: trimmed(thing), lambda: shielded(thing)):
                with self.assertRaises(BadKernel):
                    call()
        kernel = kernel_of((LET, ("if", LOW, (LET,), ())))
        for point in (None, 0, 2, 3, -1, True, "1", (1,)):
            with self.assertRaises(BadPoint):
                sides(kernel, point)

    def test_too_many(self):
        body = (("if", LOW, (("put", ("a", ((BLOCK, LANE),)), "x"),), ()),)
        for name in "klm":
            body = (("short", name, 8, body),)
        many = kernel_of((LET,) + body, lanes=(2, 8), sizes=(("n", (0, 1, 2, 3)),))
        for call in (lambda: sides(many, 4), lambda: trimmed(many), lambda: shielded(many)):
            with self.assertRaises(TooMany) as caught:
                call()
            self.assertEqual(caught.exception.most, 20000)
        with self.assertRaises(BadPoint):
            sides(many, 5)

    def test_too_many_together(self):
        body = (("if", ("within", (BLOCK, LANE), "n"), (), ()), ("put", ("a", ((BLOCK, LANE),)), "x"), ("meet",))
        for name in "klm":
            body = (("short", name, 8, body),)
        many = kernel_of((LET,) + body, lanes=(2, 8), sizes=(("n", (0,)),))
        # On the side 0 there are 8192 cases, on the side 1 twice as many.
        for call in (lambda: sides(many, 4), lambda: trimmed(many), lambda: shielded(many)):
            with self.assertRaises(TooMany):
                call()

    def test_bad_bodies(self):
        gone = kernel_of((("if", NEVER, (("take", "y", ("a", ((BLOCK, LANE),))),), ()), LET, ("put", ("a", ((BLOCK, LANE),)), "y")))
        with self.assertRaises(BadBody) as caught:
            trimmed(gone)
        self.assertEqual((caught.exception.point, caught.exception.word), (1, "word"))
        self.assertEqual(shielded(gone)[1], (0, 1, 2, None, 3))
        deep = (("put", ("a", ((BLOCK, LANE),)), "x"),)
        for _ in range(7):
            deep = (("if", LOW, deep, ()),)
        with self.assertRaises(BadBody) as caught:
            shielded(kernel_of((LET,) + deep))
        self.assertEqual((caught.exception.point, caught.exception.word), (9, "deep"))
        many = kernel_of((LET,) + (("put", ("a", ((BLOCK, LANE),)), "x"),) * 79)
        with self.assertRaises(BadBody) as caught:
            shielded(many)
        self.assertEqual((caught.exception.point, caught.exception.word), (80, "many"))


class Sides(unittest.TestCase):
    def test_by_hand(self):
        guard = ("within", (BLOCK, LANE), "n")
        loop = ("long", "t", ("none", None, 2), ("tiles", "n", 0), (("short", "k", 2, (("if", guard, (), ()),)),))
        kernel = kernel_of((("if", NEVER, (), ()), ("if", ALWAYS, (), ()), ("if", LOW, (), ()), loop))
        self.assertEqual(sides(kernel, 0), (None, ({"n": (0, 0)}, B, B, ())))
        self.assertEqual(sides(kernel, 1), (({"n": (0, 0)}, B, B, ()), None))
        self.assertEqual(sides(kernel, 2), (({"n": (0, 0)}, B, (0, 0), ()), ({"n": (0, 0)}, B, (0, 1), ())))
        self.assertEqual(sides(kernel, 5), (({"n": (3, 0)}, B, B, (2, 0)), ({"n": (3, 0)}, (3, 0), B, (2, 0))))
        never = kernel_of((("long", "t", ("tiles", "n", 0), ("tiles", "n", 0), (("if", LOW, (), ()),)),))
        self.assertEqual(sides(never, 1), (None, None))

    def test_the_first_side_case(self):
        told = [0, 0, 0]
        for seed in range(500):
            kernel = made(seed)
            for point in if_points(kernel):
                found = sides(kernel, point)
                self.assertEqual(found, (first_side(kernel, point, 0), first_side(kernel, point, 1)))
                told[sum(side is not None for side in found)] += 1
                for side in found:
                    if side is not None:
                        self.assertTrue(is_there(kernel, side[0], (point,) + side[1:]))
        self.assertGreater(min(told), 20)

    def test_gone_through(self):
        for seed in range(150):
            kernel = made(seed)
            points = if_points(kernel)
            found = {point: sides(kernel, point) for point in points}
            for sizes in samples.all_sizes_up_to(kernel, 3):
                for done in runs.Plain(kernel, sizes).lists.values():
                    for one in done:
                        for outer, side in kernel.around(one[0]):
                            if side is not None:
                                self.assertIsNotNone(found[outer][side])


class Trimmed(unittest.TestCase):
    def test_by_hand(self):
        put = ("put", ("a", ((BLOCK, LANE),)), "x")
        body = (
            ("if", NEVER, (LET,), (LET, put)),
            ("if", ALWAYS, (("if", LOW, (put,), ()),), (put,)),
            ("if", LOW, (), ()),
            ("long", "t", ("tiles", "n", 0), ("tiles", "n", 0), (put, ("meet",))),
            ("if", NEVER, (LET,), ()),
            ("meet",))
        found, points = trimmed(kernel_of(body))
        self.assertEqual(found.body, (
            LET, put, ("if", LOW, (put,), ()), ("if", LOW, (), ()), ("long", "t", ("tiles", "n", 0), ("tiles", "n", 0), ()),
            ("meet",)))
        self.assertEqual(points, (2, 3, 5, 6, 8, 9, 14))
        empty = kernel_of((LET, put), promises=(("n", None, 1), (None, "n", -2)))
        self.assertEqual((trimmed(empty)[0].body, trimmed(empty)[1]), ((), ()))
        whole = kernel_of((LET, put))
        self.assertEqual(trimmed(whole), (whole, (0, 1)))

    def test_as_told(self):
        told = [0, 0]
        for seed in range(400):
            kernel = made(seed)
            body, points = plain_trimmed(kernel)
            found = trimmed(kernel)
            self.assertEqual((found[0].body, found[1]), (body, points), seed)
            told[body == kernel.body] += 1
        self.assertGreater(min(told), 60)

    def test_the_same_instances(self):
        for seed in range(250):
            kernel = made(seed)
            found, points = trimmed(kernel)
            for sizes in samples.all_sizes_up_to(kernel, 2):
                plain = runs.Plain(kernel, sizes)
                for block, lane in plain.lists:
                    self.assertEqual(told_by(points, instances(found, sizes, block, lane)), plain.lists[(block, lane)])

    def test_nothing_is_never_there(self):
        for seed in range(250):
            found, points = trimmed(made(seed))
            for point in range(len(found.statements)):
                self.assertTrue(is_ever_there(found, point))
            for point in if_points(found):
                self.assertNotIn(None, sides(found, point))
            self.assertEqual(trimmed(found), (found, tuple(range(len(found.statements)))))


class Shielded(unittest.TestCase):
    def test_example(self):
        put = ("put", ("a", ((BLOCK, LANE),)), "x")
        found, points = shielded(kernel_of((LET, put)))
        self.assertEqual(found.body, (LET, ("if", ("within", (BLOCK, LANE), "n"), (put,), ())))
        self.assertEqual(points, (0, None, 1))
        within = kernel_of((LET, put), blocks=(("tiles", "n", 0), ONE))
        self.assertEqual(shielded(within), (within, (0, 1)))

    def test_by_hand(self):
        over = ("plus", LANE, ("is", 1))
        body = (LET, ("put", ("s", (over, ("is", 1))), "x"), ("take", "y", ("s", (LANE, ("is", 2)))),
                ("add", ("s", (over, LANE)), "x"), ("take", "y", ("s", (LANE, ("is", 0)))))
        found, points = shielded(kernel_of(body))

        def guard(small, count):
            return ("and", ("small", ("is", 0), "atmost", small), ("small", small, "less", ("is", count)))

        # Lane 3 is beyond the axis 0, and the lanes 2 and 3 are beyond the axis 1: this asks for both.
        self.assertEqual(found.body, (
            LET, ("if", guard(over, 4), (body[1],), ()), ("if", guard(("is", 2), 2), (body[2],), ()),
            ("if", guard(LANE, 2), (body[3],), ()), body[4]))
        self.assertEqual(points, (0, None, 1, None, 2, None, 3, 4))

    def test_both_axes(self):
        spots = ((BLOCK, LANE), (("turn", "t", 0), LANE))
        put = ("put", ("b", spots), "x")
        body = (LET, ("long", "t", ("none", None, 0), ("tiles", "m", 1), (put,)))
        kernel = kernel_of(body, sizes=(("n", (0,)), ("m", (1,))), arrays=(("far", "b", ("n", "m")),))
        found, points = shielded(kernel)
        guard = ("and", ("within", spots[0], "n"), ("within", spots[1], "m"))
        self.assertEqual(found.body, (LET, body[1][:4] + ((("if", guard, (put,), ()),),)))
        self.assertEqual(points, (0, 1, None, 2))
        self.assertIsNone(beyond(found))

    def test_it_does_not_trim(self):
        put = ("put", ("a", ((BLOCK, LANE),)), "x")
        body = (LET, ("if", NEVER, (put,), (LET,)))
        kernel = kernel_of(body)
        self.assertEqual(shielded(kernel), (kernel, (0, 1, 2, 3)))

    def test_what_is_not_beyond_is_done_in_the_same_order(self):
        told = [0, 0]
        for seed in range(300):
            kernel = made(seed)
            found, points = shielded(kernel)
            self.assertIsNone(beyond(found))
            for sizes in samples.all_sizes_up_to(kernel, 2):
                plain = runs.Plain(kernel, sizes)
                for block, lane in plain.lists:
                    wanted = [one for one in plain.lists[(block, lane)]
                              if one not in plain.cells or not places.beyond_axes(kernel, sizes, one)]
                    self.assertEqual(told_by(points, instances(found, sizes, block, lane)), wanted)
                    told[len(wanted) < len(plain.lists[(block, lane)])] += 1
        self.assertGreater(min(told), 1000)

    def test_shields_stand_where_they_are_wanted(self):
        told = {}
        for seed in range(300):
            kernel = made(seed)
            found, points = shielded(kernel)
            every = [(sizes, one) for sizes in samples.all_sizes_up_to(kernel, 4) for one in runs.Plain(kernel, sizes).cells]
            self.assertEqual([point for point in points if point is not None], list(range(len(kernel.statements))))
            for at, point in enumerate(points):
                if point is None or kernel.statements[point][0] not in places.DEEDS:
                    continue
                # What comes at large sizes alone is not gone through.
                if is_ever_there(kernel, point) and not any(one[0] == point for _, one in every):
                    continue
                axes = loose_axes(kernel, every, point)
                told[axes] = told.get(axes, 0) + 1
                self.assertEqual(found.statements[at], kernel.statements[point])
                if axes:
                    self.assertIsNone(points[at - 1])
                    self.assertEqual(found.statements[at - 1], (
                        "if", shield(kernel, point, axes), (kernel.statements[point],), ()), seed)
                else:
                    self.assertTrue(at == 0 or points[at - 1] is not None)
        self.assertEqual(set(told), {(), (0,), (1,), (0, 1)})
        self.assertGreater(min(told.values()), 5)


if __name__ == "__main__":
    unittest.main()
