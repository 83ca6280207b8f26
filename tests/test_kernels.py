"""Points [30] to [32]: names, forms of what a kernel is made of, and what is wrong with a kernel."""

import unittest

import samples
from lanesmeet.errors import (
    BadArrays, BadBlocks, BadBody, BadLanes, BadPoint, BadPromises, BadSizes, BadWidth)
from lanesmeet.kernels import Kernel, is_name

ONE = ("none", None, 1)
GOOD = {
    "width": 4, "lanes": (1, 4), "blocks": (("tiles", "n", 0), ONE), "sizes": (("n", (0, 1)), ("m", (3,))),
    "promises": (("n", "m", 2),), "arrays": (("far", "a", ("n", "m")), ("shared", "s", (4,))), "body": ()}
SPOT = (("block", 0, 0), ("lane", 1))
FAR = ("a", (SPOT, (("tiles", "m", -1), ("is", 0))))
SHARED = ("s", (("lane", 1),))
LET = ("let", "x", "f", ())


def kernel(**other):
    return Kernel(**{**GOOD, **other})


class Names(unittest.TestCase):
    def test_names(self):
        for thing in ("a", "zyx", "abcdefgh"):
            self.assertIs(is_name(thing), True)
        for thing in ("", "abcdefghi", "A", "a1", "a b", None, 5, ("a",), "\u00e4", "a\n", ["a"]):
            self.assertIs(is_name(thing), False)


class Heads(unittest.TestCase):
    def wrong(self, error, name, things):
        for thing in things:
            with self.assertRaises(error):
                kernel(**{name: thing})

    def test_good(self):
        made = kernel()
        for name in GOOD:
            self.assertEqual(getattr(made, name), GOOD[name])
        self.assertEqual(made.statements, ())
        Kernel(1, (1, 1), (ONE, ONE), (), (), (), ())
        Kernel(8, (2, 8), (("none", None, 9), ONE), (), (), (), ())

    def test_width(self):
        self.wrong(BadWidth, "width", (0, 9, True, None, "4", (4,)))

    def test_lanes(self):
        self.wrong(BadLanes, "lanes", (None, 4, [1, 4], (1,), (1, 2, 3), (0, 4), (1, 9), (9, 1), (1, 0), (3, 6), (6, 3), (True, 4), (1, None)))
        kernel(lanes=(8, 2))
        kernel(lanes=(4, 4))

    def test_blocks(self):
        self.wrong(BadBlocks, "blocks", (
            None, [ONE, ONE], (ONE,), (ONE, ONE, ONE), (ONE, ("none", None, 0)), (ONE, ("none", None, 10)),
            (ONE, ("none", "n", 1)), (ONE, ("block", 0, 1)), (ONE, ("turn", "t", 1)), (ONE, ["tiles", "n", 0]),
            (ONE, ("tiles", "n", True)), (ONE, ("tiles", "k", 0)), (ONE, ("tiles", None, 0)), (ONE, ("none", None, True))))
        kernel(blocks=(("tiles", "m", -9), ("tiles", "n", 100)))

    def test_sizes(self):
        self.wrong(BadSizes, "sizes", (
            None, [("n", (0,))], (("n", (4,)), ("m", (3,))), (("n", (0,)), ("n", (3,))), (("n", ()),), (("n", (1, 0)),),
            (("n", (True,)),), (("n", [0]),), tuple((name, (0,)) for name in "nmkl"), (("N", (0,)),), (("n", (-1,)),)))

    def test_promises(self):
        self.wrong(BadPromises, "promises", (
            None, [("n", "m", 2)], (("n", "k", 2),), (("n", "n", 2),), (("n", "m", 2),) * 9, (("n", "m", True),),
            (["n", "m", 2],), (("tiles n", None, 2),)))
        kernel(promises=(("n", "m", 2),) * 8)

    def test_arrays(self):
        self.wrong(BadArrays, "arrays", (
            None, [("far", "a", ("n",))], (("far", "a", ("k",)),), (("far", "a", ()),), (("far", "a", ("n", "n", "n")),),
            (("far", "a", ["n"]),), (("near", "a", ("n",)),), (("near", "a", (4,)),), (("shared", "s", (0,)),), (("shared", "s", (17,)),),
            (("shared", "s", (True,)),), (("shared", "s", ()),), (("far", "a", ("n",)), ("shared", "a", (1,))),
            (("far", "A", ("n",)),), tuple(("far", name, ("n",)) for name in "abcdefg"), (("far", "a", (1,)),),
            (("shared", "s", ("n",)),), (("far", "a"),), (("shared", "s", (1, 2, 3)),)))
        kernel(arrays=(("far", "a", ("n", "n")), ("shared", "s", (16, 1))))
        kernel(arrays=tuple(("far", name, ("n",)) for name in "abcdef"))

    def test_order_of_errors(self):
        wrong = {"width": 0, "lanes": 0, "blocks": 0, "sizes": 0, "promises": 0, "arrays": 0, "body": 0}
        for name, error in (("width", BadWidth), ("lanes", BadLanes), ("blocks", BadBlocks), ("sizes", BadSizes),
                            ("promises", BadPromises), ("arrays", BadArrays), ("body", BadBody)):
            with self.assertRaises(error):
                kernel(**wrong)
            wrong[name] = GOOD[name]
        with self.assertRaises(BadSizes):
            kernel(blocks=(("tiles", "k", 0), ONE), sizes=5)
        with self.assertRaises(BadBlocks):
            kernel(blocks=(("tiles", "k", 0), ONE), promises=5)


class Bodies(unittest.TestCase):
    def wrong(self, body, point, word, **other):
        with self.assertRaises(BadBody) as caught:
            kernel(body=body, **other)
        self.assertEqual((caught.exception.point, caught.exception.word), (point, word), body)

    def test_no_tuple(self):
        for body in (None, [], 5, [("meet",)], "meet"):
            self.wrong(body, None, "form")

    def test_forms_of_statements(self):
        smalls = (None, 5, (), ("is",), ("is", True), ("is", None), ("lane", 2), ("lane", True), ("turn", "K"), ("rest", 5),
                  ("plus", ("is", 1)), ("plus", ("is", 1), 5), ("over", ("is", 1), 0), ("over", ("is", 1), 65),
                  ("over", ("is", 1), True), ("rest of", ("is", 1), ("is", 2)), ("mod", ("is", 1), 2), ["is", 1],
                  ("plus", 5, ("is", 1)), ("times", ("is", 1), ("is", 1), ("is", 1)), ("over", 5, 2), ("size", "n"),
                  ("over", ("is", 1), 2, 2), ("is", 1, 1), ("lane",), ("lane", -1))
        forms = (None, ("none", 0, 1), ("none", None, True), ("block", 2, 0), ("block", True, 0), ("turn", "T", 0),
                 ("tiles", None, 0), ("tiles", "n"), ["none", None, 1], ("size", "n", 0))
        places = [None, ("a",), ("A", (SPOT, SPOT)), ("a", [SPOT, SPOT]), ("a", (SPOT, None)), ["a", (SPOT, SPOT)]]
        places += [("a", (SPOT, (("none", None, 0), small))) for small in smalls]
        places += [("a", (SPOT, (form, ("is", 0)))) for form in forms]
        statements = [None, 5, (), [], "meet", ("meet", 1), ["meet"], ("wait",), ("take", "x"), ("take", "X", FAR),
                      ("put", "x", FAR), ("put", FAR), ("add", FAR, "x", 1), ("put", FAR, "X"), ("add", 5, "x"), ("let", "x", "f"), ("let", "x", "F", ()),
                      ("let", "X", "f", ()), ("let", "x", "f", []), ("let", "x", "f", ("x",) * 5),
                      ("let", "x", "f", (5,)), ("short", "k", 0, ()), ("short", "k", 9, ()), ("short", "k", True, ()),
                      ("short", "K", 1, ()), ("short", "k", 1, []), ("short", "k", 1), ("long", "t", ONE, ONE),
                      ("long", "t", ONE, ONE, []), ("long", "T", ONE, ONE, ()), ("long", "t", None, ONE, ()),
                      ("long", "t", ONE, ("none", 0, 1), ()), ("if", None, (), ()), ("if", ("not", None), (), ())]
        statements += [("take", "x", place) for place in places]
        guards = [("small", ("is", 0), "more", ("is", 0)), ("small", ("is", 0), 5, ("is", 0)),
                  ("small", ("is", 0), "less"), ("order", SPOT), ("order", SPOT, ("is", 0)), ("within", SPOT, 5),
                  ("within", ("is", 0), "n"), ("not",), ("small", 5, "less", ("is", 0)),
                  ("small", ("is", 0), "less", 5), ("small", ("is", 0), "less", ("is", 0), 1), ("order", 5, SPOT),
                  ("order", SPOT, SPOT, SPOT), ("beside", SPOT, "n"), ("and", ("order", SPOT, SPOT), 5),
                  ("or", 5, ("order", SPOT, SPOT)), ("not", ("order", SPOT, SPOT), 1), ("within", SPOT, "n", 1), ("and", ("order", SPOT, SPOT)), ("xor", 1, 2), ()]
        statements += [("if", guard, (), ()) for guard in guards]
        good = ("order", SPOT, SPOT)
        statements += [("if", good, ()), ("if", good, [], ()), ("if", good, (), None)]
        for statement in statements:
            self.wrong((LET, statement, ("put", FAR, "unread")), 1, "form")
            self.wrong((LET, ("short", "k", 1, (LET, statement))), 3, "form")

    def test_good_statements(self):
        guard = ("and", ("or", ("within", SPOT, "n"), ("not", ("order", SPOT, SPOT))),
                 ("small", ("rest of", ("minus", ("rest", "n"), ("is", -5)), 64), "same", ("over", ("turn", "k"), 1)))
        body = (("take", "x", FAR), ("let", "y", "x", ("x", "x", "x", "x")), ("put", SHARED, "y"), ("add", FAR, "x"),
                ("meet",), ("short", "k", 8, (("if", guard, (("meet",),), ()),)),
                ("long", "k", ONE, ("tiles", "n", 0), (("put", ("a", (SPOT, (("turn", "k", 0), ("is", 0)))), "x"),)))
        made = kernel(body=body)
        self.assertEqual(len(made.statements), 10)
        self.assertEqual([statement[0] for statement in made.statements],
                         ["take", "let", "put", "add", "meet", "short", "if", "meet", "long", "put"])
        self.assertEqual(made.around(7), ((5, None), (6, 0)))
        self.assertEqual(made.around(9), ((8, None),))
        self.assertEqual(made.around(0), ())
        both = kernel(body=(("if", guard[1], (("meet",),), (("meet",), ("meet",))),))
        self.assertEqual([both.around(point) for point in range(4)], [(), ((0, 0),), ((0, 1),), ((0, 1),)])
        for point in (None, 10, -1, True, "0", (0,)):
            with self.assertRaises(BadPoint):
                made.around(point)

    def test_many(self):
        kernel(body=(("meet",),) * 80)
        self.wrong((("meet",),) * 81, 80, "many")
        self.wrong((("meet",),) * 80 + (5,), 80, "form")
        inner = ("short", "k", 1, (("meet",),) * 79)
        kernel(body=(inner,))
        self.wrong((inner, ("put", FAR, "x")), 80, "many")

    def test_deep(self):
        guard = ("order", SPOT, SPOT)

        def ifs(count):
            body = (("meet",),)
            for _ in range(count):
                body = (("if", guard, body, ()),)
            return body

        kernel(body=ifs(7))
        self.wrong(ifs(8), 8, "deep")

        def loops(words, inner):
            body = inner
            for at, word in enumerate(words):
                name = "abcdefgh"[at]
                body = ((word, name, 1, body),) if word == "short" else ((word, name, ONE, ONE, body),)
            return body

        kernel(body=loops(["long"] * 4, ()))
        self.wrong(loops(["long"] * 4, (("meet",),)), 4, "deep")
        kernel(body=loops(["short"] * 3 + ["long"] * 3, (("meet",),)))
        self.wrong(loops(["short"] * 4, (("meet",),)), 4, "deep")
        self.wrong(loops(["short"] * 4, (("short", "a", 1, ()),)), 4, "deep")

    def test_names_of_loops(self):
        self.wrong((("short", "k", 1, (("short", "k", 2, ()),)),), 1, "name")
        self.wrong((("short", "k", 1, (("long", "k", ONE, ("turn", "z", 0), ()),)),), 1, "name")
        self.wrong((("long", "k", ONE, ONE, (("if", ("order", SPOT, SPOT), (), (("short", "k", 1, ()),)),)),), 2, "name")
        kernel(body=(("short", "k", 1, ()), ("short", "k", 1, ()), ("long", "k", ONE, ONE, ())))

    def test_unknown(self):
        def take(spot):
            return ("take", "x", ("a", (SPOT, spot)))

        def within(word, statement):
            return ((word, "k", 2, (statement,)) if word == "short" else (word, "k", ONE, ONE, (statement,)),)

        turn = (("none", None, 0), ("turn", "k"))
        form = (("turn", "k", 0), ("is", 0))
        kernel(body=within("short", take(turn)))
        kernel(body=within("long", take(form)))
        self.wrong(within("long", take(turn)), 1, "unknown")
        self.wrong(within("short", take(form)), 1, "unknown")
        self.wrong((take(turn),), 0, "unknown")
        self.wrong((("short", "k", 1, ()), take(turn)), 1, "unknown")
        self.wrong((take((("tiles", "k", 0), ("is", 0))),), 0, "unknown")
        self.wrong((take((("none", None, 0), ("over", ("plus", ("is", 1), ("rest", "k")), 2))),), 0, "unknown")
        self.wrong((("take", "x", ("b", (SPOT,))),), 0, "unknown")
        self.wrong((("put", ("b", (SPOT,)), "y"),), 0, "unknown")
        for guard in (("within", SPOT, "k"), ("small", ("turn", "k"), "less", ("is", 0)),
                      ("not", ("order", SPOT, form)), ("order", form, SPOT),
                      ("small", ("plus", ("rest", "k"), ("is", 1)), "less", ("is", 0)),
                      ("small", ("is", 0), "less", ("minus", ("is", 1), ("rest", "k"))), ("within", form, "n"),
                      ("or", ("order", SPOT, SPOT), ("order", form, SPOT)), ("and", ("order", SPOT, SPOT), ("within", turn, "n"))):
            self.wrong((("if", guard, (), ()),), 0, "unknown")
        self.wrong((("long", "k", ("turn", "k", 0), ONE, ()),), 0, "unknown")
        self.wrong((("long", "k", ONE, ("tiles", "k", 0), ()),), 0, "unknown")

    def test_where(self):
        for place in (("a", (SPOT,)), ("a", (SPOT, SPOT, SPOT)), ("a", ()), ("a", (("lane", 0), ("lane", 1))),
                      ("a", (SPOT, ("lane", 1))), ("s", (SPOT,)), ("s", (("lane", 0), ("lane", 1))), ("s", ())):
            self.wrong((("take", "x", place),), 0, "where")
            self.wrong((("put", place, "x"),), 0, "where")

    def test_words(self):
        self.wrong((("put", FAR, "x"),), 0, "word")
        self.wrong((("add", FAR, "x"), ("take", "x", FAR)), 0, "word")
        self.wrong((("let", "x", "f", ("x",)),), 0, "word")
        self.wrong((LET, ("let", "y", "f", ("x", "z"))), 1, "word")
        kernel(body=(("if", ("order", SPOT, SPOT), (LET,), (("put", FAR, "x"),)), ("put", FAR, "x")))
        kernel(body=(("short", "k", 1, (("take", "x", FAR),)), ("let", "f", "x", ("x",))))

    def test_the_first_statement_counts(self):
        self.wrong((("put", FAR, "x"), 5), 0, "word")
        self.wrong((("short", "k", 1, (("put", FAR, "x"),)), 5), 1, "word")
        self.wrong((("if", ("order", SPOT, SPOT), (), (("take", "x", ("b", ())),)), 5), 1, "unknown")
        self.wrong((("put", ("b", ()), "x"),), 0, "unknown")
        self.wrong((("put", ("a", ()), "x"),), 0, "where")

    def test_names_for_themselves(self):
        body = (("let", "n", "n", ()), ("short", "n", 1, (("put", ("n", ((("tiles", "n", 0), ("turn", "n")),)), "n"),)))
        kernel(arrays=(("far", "n", ("n",)),), body=body)


class Equality(unittest.TestCase):
    def test_equal_if_all_seven_are(self):
        self.assertEqual(kernel(), kernel())
        other = {"width": 5, "lanes": (4, 1), "blocks": (ONE, ONE), "sizes": (("n", (0,)), ("m", (3,))),
                 "promises": (), "arrays": (), "body": (("meet",),)}
        for name, value in other.items():
            self.assertNotEqual(kernel(), kernel(**{name: value}))
        for thing in (None, 5, (), "kernel", GOOD):
            self.assertIs(kernel() == thing, False)

    def test_points_are_in_the_order_of_the_text(self):
        for seed in range(200):
            made = samples.made_kernel(seed)
            for point, statement in enumerate(made.statements):
                around = made.around(point)
                for outer, side in around:
                    self.assertLess(outer, point)
                    self.assertEqual(side is None, made.statements[outer][0] != "if")
                block = made.body
                if around:
                    outer, side = around[-1]
                    block = made.statements[outer][2 + side] if side is not None else made.statements[outer][-1]
                self.assertIn(statement, block)


if __name__ == "__main__":
    unittest.main()
