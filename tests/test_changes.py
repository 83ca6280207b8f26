"""Points [140] and [141]: changes of nests, and whether they turn what crosses."""

import unittest

import nestery
from nestery import EXAMPLE, ZERO, Crossing, at, bare, deeds_at, nest_of, tiles, turn, turns_by
from samples import NO_KERNELS, all_sizes_up_to
from lanesmeet.changes import changed, spoil, spoil_region
from lanesmeet.errors import BadChange, BadNest, TooMany
from lanesmeet.judge import judge
from lanesmeet.machine import outcome_of
from lanesmeet.maps import image, is_map
from lanesmeet.nests import is_nest

LET = ("let", "x", "f", ())
PUT = ("put", at("a", turn("i"), turn("j")), "x")
PIECE = (LET, PUT)


def square(first, last, block=PIECE, low=bare(0), high=tiles("n")):
    """A nest with a loop i and in it a loop j, over an array of two sizes."""
    return nest_of(("n", "m"), (("a", ("n", "m")),),
                   (("long", "i", low, high, (("long", "j", first, last, block),)),))


def order(one, other):
    return ("order", (one, ZERO), (other, ZERO))


def body_of(nest, change):
    return changed(nest, change)[0].body


def all_changes(nest):
    for point in range(len(nest.statements)):
        for word in ("swap", "exchange", "join"):
            yield (word, point)
        for count in (1, 2):
            yield ("part", point, count)
        for more in (-1, 2):
            yield ("shift", point, more)


def images_of(nest, found, chart, sizes):
    return {deed: image(nest, found, chart, sizes, deed) for deed in deeds_at(found, sizes)}


def outcome_told(nest, found, chart, sizes):
    """The outcome of what came of a nest, its deeds told by their images."""
    images = images_of(nest, found, chart, sizes)
    end, met, cells = outcome_of(found, sizes, [])

    def told(content):
        return None if content[0] is None else images[content[0]], tuple(sorted(images[one] for one in content[1]))

    return end, {images[one]: told(met[one]) for one in met}, {cell: told(cells[cell]) for cell in cells}


def is_turned(nest, change, one, other):
    """Whether a change turns two deeds, the first one ahead in the nest, by its definition."""
    word, point = change[:2]
    if word == "shift":
        return False
    loops = len(nest.loops[point])
    if one[3][:loops] != other[3][:loops]:
        return False
    firsts = turns_by(nest, one)
    seconds = turns_by(nest, other)

    def within(deed, outer):
        if nest.statements[outer][0] in ("long", "if"):
            return outer in [own for own, _ in nest.around(deed[0])]
        return outer <= deed[0] <= min(own for own in range(outer, len(nest.statements))
                                       if nest.statements[own][0] in ("put", "add"))

    block = [own for own in range(len(nest.statements)) if nest.around(own) == nest.around(point)]
    heads = [own for own in block if own == block[0] or nest.statements[own][0] in ("long", "if")
             or nest.statements[own - 1][0] in ("put", "add") or own - 1 not in block]
    if word == "exchange":
        inner = point + 1
        return (within(one, inner) and within(other, inner) and firsts[point] < seconds[point]
                and firsts[inner] > seconds[inner])
    if word == "part":
        own = [item for item in range(len(nest.statements)) if nest.around(item) == nest.around(point) + ((point, None),)]
        items = [item for item in own if item == own[0] or nest.statements[item][0] in ("long", "if")
                 or nest.statements[item - 1][0] in ("put", "add") or item - 1 not in own]
        later = any(within(one, item) for item in items[change[2]:])
        return (later and any(within(other, item) for item in items[:change[2]]) and firsts[point] < seconds[point])
    after = heads[heads.index(point) + 1]
    if word == "swap":
        return within(one, point) and within(other, after)
    return within(one, point) and within(other, after) and firsts[point] > seconds[after]


class Changes(unittest.TestCase):
    def test_errors_in_order(self):
        for thing in NO_KERNELS:
            for one in (changed, spoil, spoil_region):
                with self.assertRaises(BadNest):
                    one(thing, None)
        last = nest_of("n", (("a", "n"),), (
            ("long", "i", bare(0), tiles("n"), (LET, ("put", at("a", turn("i")), "x"))),
            ("long", "j", bare(1), tiles("n"), (LET, ("put", at("a", turn("j")), "x")))))
        for nest, change in (
                [(EXAMPLE, thing) for thing in (None, 5, "swap", (), ("swap",), ["swap", 0], ("swap", 0, 1), (0, "swap"),
                                               ("swap", True), ("swap", "0"), ("turn", 0), ("swap", 4), ("swap", 1),
                                               ("swap", 3), ("swap", 9), ("swap", -1), ("exchange", 0), ("join", 0),
                                               ("part", 0, 1), ("part", 0, 0), ("part", 0, True), ("part", 1, 1),
                                               ("part", 0), ("join", 4), ("shift", 0), ("shift", 0, True),
                                               ("shift", 0, None), ("shift", 1, 1), ("shift", 9, 1), ("part", 0, 1, 1),
                                               (None, 0), ("swap", None), ("join", 0, 0))]
                + [(last, ("join", 0)), (last, ("swap", 2)), (last, ("exchange", 0)), (last, ("swap", 1))]):
            for one in (changed, spoil, spoil_region):
                with self.assertRaises(BadChange, msg=change):
                    one(nest, change)

    def test_what_comes_must_be_a_nest(self):
        inner = ("long", "i", bare(0), tiles("n"), (LET, ("put", at("a", turn("i")), "x")))
        joined = nest_of("n", (("a", "n"),), (("long", "i", bare(0), tiles("n"), ()),
                                              ("long", "j", bare(0), tiles("n"), (inner,))))
        with self.assertRaises(BadChange):
            changed(joined, ("join", 0))
        many = square(turn("i"), tiles("m"), PIECE * 38 + (("long", "l", bare(0), bare(1), ()),) * 2)
        self.assertEqual(len(many.statements), 80)
        with self.assertRaises(BadChange):
            changed(many, ("exchange", 0))
        self.assertTrue(is_nest(changed(square(bare(0), tiles("m"), many.statements[1][4]), ("exchange", 0))[0]))

    def test_swap(self):
        found, (deeds, sources) = changed(EXAMPLE, ("swap", 0))
        self.assertEqual(found.body, (EXAMPLE.body[1], EXAMPLE.body[0]))
        self.assertEqual((list(deeds), [deeds[point][0] for point in deeds], sources), ([1, 2, 4, 6], [5, 6, 1, 3], {}))
        nest = nest_of("n", (("a", "n"),), (LET, ("put", at("a", bare(0)), "x"), ("take", "y", at("a", bare(1))),
                                            ("add", at("a", bare(1)), "y")))
        self.assertEqual(body_of(nest, ("swap", 0)), nest.body[2:] + nest.body[:2])

    def test_exchange(self):
        def exchanged(first, last, **more):
            return body_of(square(first, last, **more), ("exchange", 0))

        low = bare(0)
        high = tiles("n")
        self.assertEqual(exchanged(bare(1), tiles("m")),
                         (("long", "j", bare(1), tiles("m"), (("long", "i", low, high, PIECE),)),))
        guard = order(turn("i", 2), turn("j"))
        self.assertEqual(exchanged(turn("i", 2), tiles("m")),
                         (("long", "j", bare(2), tiles("m"), (("long", "i", low, high, (("if", guard, PIECE, ()),)),)),))
        later = order(turn("j", 1), turn("i", 3))
        self.assertEqual(exchanged(bare(0), turn("i", 3)),
                         (("long", "j", bare(0), tiles("n", 2), (("long", "i", low, high, (("if", later, PIECE, ()),)),)),))
        both = ("and", order(turn("i", -1), turn("j")), order(turn("j", 1), turn("i", 1)))
        self.assertEqual(exchanged(turn("i", -1), turn("i", 1), low=tiles("m", 4), high=tiles("n", -1)),
                         (("long", "j", tiles("m", 3), tiles("n", -1),
                           (("long", "i", tiles("m", 4), tiles("n", -1), (("if", both, PIECE, ()),)),)),))

    def test_part_and_join(self):
        one = (LET, ("put", at("a", turn("i"), bare(0)), "x"))
        other = (("long", "j", turn("i"), tiles("m"), PIECE),)
        nest = nest_of(("n", "m"), (("a", ("n", "m")),), (("long", "i", bare(0), tiles("n"), one + other + one),))
        for count, items in ((1, (one, other + one)), (2, (one + other, one))):
            parted = body_of(nest, ("part", 0, count))
            self.assertEqual(parted, tuple(("long", "i", bare(0), tiles("n"), block) for block in items))
        with self.assertRaises(BadChange):
            changed(nest, ("part", 0, 3))
        whole, _ = changed(nest, ("part", 0, 1))
        self.assertEqual(body_of(whole, ("join", 0)), nest.body)
        named = (("long", "u", bare(0), tiles("n"), (("if", order(turn("u", 2), bare(3)), (
            LET, ("put", at("a", turn("u", -1), bare(0)), "x")), ()),)),)
        nest = nest_of(("n", "m"), (("a", ("n", "m")),), (("long", "i", bare(0), tiles("n"), one),) + named)
        found, (deeds, _) = changed(nest, ("join", 0))
        self.assertEqual(found.body, (("long", "i", bare(0), tiles("n"), one + (("if", order(turn("i", 2), bare(3)), (
            LET, ("put", at("a", turn("i", -1), bare(0)), "x")), ()),)),))
        self.assertEqual([deeds[point][0] for point in deeds], [2, 6])
        for change in (("long", "u", bare(1), tiles("n"), ()), ("long", "u", bare(0), tiles("n", 1), ()),
                       ("long", "u", bare(0), tiles("m"), ())):
            with self.assertRaises(BadChange):
                changed(nest_of(("n", "m"), (("a", ("n", "m")),), (nest.body[0], change)), ("join", 0))

    def test_join_and_swap_among_others(self):
        def loop(name, place, word="put"):
            return ("long", name, bare(0), tiles("n"), (LET, (word, place, "x")))

        first = loop("k", at("b", turn("k")))
        one = loop("i", at("a", turn("i")))
        other = loop("j", at("a", turn("j", 1)))
        last = ("long", "l", bare(1), tiles("n"), (LET, ("put", at("b", turn("l")), "x")))
        nest = nest_of("n", (("a", "n"), ("b", "n")), (first, one, other, last))
        found, (deeds, _) = changed(nest, ("join", 3))
        joined = ("long", "i", bare(0), tiles("n"), one[4] + (LET, ("put", at("a", turn("i", 1)), "x")))
        self.assertEqual(found.body, (first, joined, last))
        self.assertEqual([deeds[point][0] for point in deeds], [2, 5, 8, 11])
        self.assertEqual(spoil_region(nest, ("join", 3)).least(), {"n": (2, 0)})
        sizes, before, later = spoil(nest, ("join", 3))
        self.assertEqual((before[0], later[0], before[3][0] - later[3][0]), (5, 8, 1))
        with self.assertRaises(BadChange):
            changed(nest, ("join", 6))
        found, _ = changed(nest, ("swap", 3))
        self.assertEqual(found.body, (first, other, one, last))
        self.assertEqual(spoil_region(nest, ("swap", 3)).least(), {"n": (2, 0)})
        self.assertIsNone(spoil(nest, ("swap", 6)))
        self.assertIsNone(spoil(nest, ("swap", 0)))

    def test_shift(self):
        nest = square(turn("i", 1), tiles("m", -2))
        self.assertEqual(body_of(nest, ("shift", 0, 3)), (("long", "i", bare(3), tiles("n", 3), (
            ("long", "j", turn("i", -2), tiles("m", -2), (LET, ("put", at("a", turn("i", -3), turn("j")), "x"))),)),))
        self.assertEqual(body_of(nest, ("shift", 1, -1)), (("long", "i", bare(0), tiles("n"), (
            ("long", "j", turn("i", 0), tiles("m", -3), (LET, ("put", at("a", turn("i"), turn("j", 1)), "x"))),)),))
        self.assertIsNone(spoil(nest, ("shift", 0, 3)))
        self.assertFalse(spoil_region(nest, ("shift", 0, 3)))

    def test_spoils_by_hand(self):
        sizes, one, other = spoil(EXAMPLE, ("swap", 0))
        self.assertEqual((one[0], other[0], one[3]), (3, 5, other[3]))
        self.assertEqual(spoil_region(EXAMPLE, ("swap", 0)).least(), {"n": (2, 0)})
        put = ("put", at("a", turn("i"), bare(0)), "x")
        nest = square(bare(0), tiles("m"), (LET, put))
        sizes, one, other = spoil(nest, ("exchange", 0)) or (None, None, None)
        self.assertIsNone(sizes)
        put = ("put", at("a", bare(0), bare(0)), "x")
        self.assertEqual(spoil_region(square(bare(0), tiles("m"), (LET, put)), ("exchange", 0)).least(),
                         {"m": (2, 0), "n": (2, 0)})

    def test_too_many(self):
        nest = nestery.wide_nest()
        block = nest.body[0][4]
        twice = nest_of("n", (("a", "n"),), (("long", "i", bare(0), tiles("n"), block + block),))
        for change in (("part", 0, 1), ("swap", 1)):
            self.assertTrue(is_nest(changed(twice, change)[0]))
            for one in (spoil, spoil_region):
                with self.assertRaises(TooMany) as caught:
                    one(twice, change)
                self.assertEqual(caught.exception.most, 20000)

    def test_gone_through(self):
        spoiled = 0
        for seed in range(110):
            nest = nestery.made_nest(seed)
            sizes_list = list(all_sizes_up_to(nest, 3 if len(nest.sizes) == 1 else 2))
            before = {at_: outcome_of(nest, sizes, []) for at_, sizes in enumerate(sizes_list)}
            for change in all_changes(nest):
                try:
                    found, chart = changed(nest, change)
                except BadChange:
                    continue
                self.assertTrue(is_nest(found) and is_map(nest, found, chart))
                self.assertEqual(list(chart[0]), sorted(chart[0]))
                told = spoil(nest, change)
                region = spoil_region(nest, change)
                self.assertEqual(told is None, not region)
                spoiled += told is not None
                for at_, sizes in enumerate(sizes_list):
                    self.assertEqual(sorted(images_of(nest, found, chart, sizes).values()), sorted(deeds_at(nest, sizes)))
                    same = outcome_told(nest, found, chart, sizes) == before[at_]
                    self.assertEqual(same, sizes not in region, (seed, change, sizes))
                    if seed % 4 == 0:
                        pairs = [pair for pair in Crossing(nest, sizes).pairs() if is_turned(nest, change, *pair)]
                        self.assertEqual(bool(pairs), sizes in region)
                if told is not None:
                    sizes, one, other = told
                    self.assertIn((one, other), list(Crossing(nest, sizes).pairs()))
                    self.assertTrue(is_turned(nest, change, one, other))
                if seed % 6 == 0:
                    self.assertEqual(judge(nest, found, chart) == ("alike",), told is None)
        self.assertGreater(spoiled, 100)


if __name__ == "__main__":
    unittest.main()
