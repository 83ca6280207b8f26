"""Points [33] and [34]: texts of kernels."""

import random
import unittest

import samples
from lanesmeet.errors import (
    BadArrays, BadBlocks, BadBody, BadKernel, BadLanes, BadPromises, BadSizes, BadText, BadWidth)
from lanesmeet.kernels import Kernel
from lanesmeet.texts import kernel_of, text_of

HEAD = """\
width 4
lanes 1 4
blocks tiles n - 1, 2
size n rests 0 1
size m rests 3
promise n - 0 <= 3
promise 0 - m <= -1
far a n m
shared s 4 4
body
"""
BODY = """\
take x from a[block 0: lane 1, tiles n + 2: (lane 0 - -3)]
let y = f(x, x)
let z = f()
meet
short k 4:
  if not (small lane 0 < 3 and order 5: rest n <= -2: 0):
  else:
    put y into s[turn k, (lane 1 mod 4)]
long t from 0 to tiles n + 1:
  if (within turn t - 1: (lane 1 // 2) of n or small (lane 0 * 2) == 1):
    add x to a[turn t: 0, 3: -1]
  else:
    meet
  if small 1 <= (1 + 1):
"""
SPOT = (("block", 0, 0), ("lane", 1))


def example():
    guard = ("not", ("and", ("small", ("lane", 0), "less", ("is", 3)),
                     ("order", (("none", None, 5), ("rest", "n")), (("none", None, -2), ("is", 0)))))
    other = ("or", ("within", (("turn", "t", -1), ("over", ("lane", 1), 2)), "n"),
             ("small", ("times", ("lane", 0), ("is", 2)), "same", ("is", 1)))
    body = (
        ("take", "x", ("a", (SPOT, (("tiles", "n", 2), ("minus", ("lane", 0), ("is", -3)))))),
        ("let", "y", "f", ("x", "x")), ("let", "z", "f", ()), ("meet",),
        ("short", "k", 4, (
            ("if", guard, (), (("put", ("s", (("turn", "k"), ("rest of", ("lane", 1), 4))), "y"),)),)),
        ("long", "t", ("none", None, 0), ("tiles", "n", 1), (
            ("if", other, (("add", ("a", ((("turn", "t", 0), ("is", 0)), (("none", None, 3), ("is", -1)))), "x"),),
             (("meet",),)),
            ("if", ("small", ("is", 1), "atmost", ("plus", ("is", 1), ("is", 1))), (), ()))))
    return Kernel(4, (1, 4), (("tiles", "n", -1), ("none", None, 2)), (("n", (0, 1)), ("m", (3,))),
                  (("n", None, 3), (None, "m", -1)), (("far", "a", ("n", "m")), ("shared", "s", (4, 4))), body)


class Written(unittest.TestCase):
    def test_by_hand(self):
        self.assertEqual(text_of(example()), HEAD + BODY)
        self.assertEqual(kernel_of(HEAD + BODY), example())
        least = Kernel(1, (1, 1), (("none", None, 1),) * 2, (), (), (), ())
        self.assertEqual(text_of(least), "width 1\nlanes 1 1\nblocks 1, 1\nbody\n")

    def test_bad_kernels(self):
        for thing in (None, 5, "width 4\n", HEAD):
            with self.assertRaises(BadKernel):
                text_of(thing)

    def test_read_and_written_again(self):
        for seed in range(1500):
            kernel = samples.made_kernel(seed, many=9)
            text = text_of(kernel)
            self.assertEqual(kernel_of(text), kernel)
            r = random.Random(seed)
            other = spread(r, text)
            self.assertEqual(kernel_of(other), kernel, other)
            self.assertEqual(text_of(kernel_of(other)), text)


def spread(r, text):
    """The same text with other blanks, further rows, and perhaps without the last line feed."""
    rows = []
    for row in text.split("\n")[:-1]:
        while r.random() < 0.2:
            rows.append(r.choice(("", "   ", "# words [ %", "     #", "#else:")))
        ahead = len(row) - len(row.lstrip(" "))
        out = row[:ahead]
        for letter in row[ahead:]:
            if letter == " ":
                out += " " * r.randint(1, 3)
            elif letter in "[]():,+*-" and r.random() < 0.5:
                out += " " * r.randint(0, 2) + letter + " " * r.randint(0, 2)
            else:
                out += letter
        rows.append(out + " " * r.randint(0, 2))
    return "\n".join(rows) + r.choice(("", "\n", "\n\n", "\n  # end"))


class Read(unittest.TestCase):
    def wrong(self, text, row):
        with self.assertRaises(BadText) as caught:
            kernel_of(text)
        self.assertEqual(caught.exception.row, row, text)

    def in_body(self, body, row):
        self.wrong(HEAD + body, None if row is None else 10 + row)

    def test_no_string(self):
        for thing in (None, 5, b"width 4\n", ["width 4"], ()):
            self.wrong(thing, None)

    def test_close_signs(self):
        tight = HEAD.replace(" - ", "-").replace(" <= ", "<=").replace(", ", ",")
        tight += BODY.replace(" - ", "-").replace(", ", ",").replace(": lane", ":lane").replace(" <= ", "<=")
        self.assertEqual(kernel_of(tight.replace(" == ", "==").replace(" // ", "//").replace(" * ", "*")), example())
        self.assertEqual(kernel_of(HEAD.replace("n - 1,", "n -1 ,") + BODY), example())
        self.assertEqual(kernel_of(HEAD.replace("<= -1", "<= - 1") + BODY.replace("- -3", "--3")), example())
        self.assertEqual(kernel_of((HEAD + BODY)[:-1]), example())

    def test_missing_rows(self):
        self.wrong("", 1)
        self.wrong("\n", 2)
        self.wrong("# nothing\n\n", 3)
        self.wrong("  ", 2)
        rows = HEAD.split("\n")[:-1]
        self.wrong("\n".join(rows[:1]), 2)
        self.wrong("\n".join(rows[:2]) + "\n", 3)
        self.wrong("\n".join(rows[:3]), 4)
        self.wrong("\n".join(rows[:9]) + "\n", 10)
        self.in_body("if small 1 < 2:\nelse:", 3)
        self.in_body("if small 1 < 2:\nelse:\n\n  # nothing\n", 5)

    def test_rows_that_cannot_stand_there(self):
        rows = HEAD.split("\n")[:-1]
        for at in range(len(rows)):
            for word in ("wide 4", "4", "meet", " " + rows[at], rows[at] + " ]", rows[at] + " Z", "[", "width4",
                         rows[at] + "\t", rows[at] + " .", "else:"):
                self.wrong("\n".join(rows[:at] + [word] + rows[at + 1:]) + "\n", at + 1)
        self.wrong("\n".join(rows[:1] + rows[2:]), 2)
        self.wrong("\n".join([rows[1], rows[0]] + rows[2:]), 1)
        self.wrong("\n".join(rows[:5] + ["far a n"] + rows[5:]), 7)
        self.wrong("\n".join(rows[:7] + ["size k rests 0"] + rows[7:]), 8)
        self.wrong("\n".join(rows[:9] + ["promise n - m <= 1"] + rows[9:]), 10)
        self.wrong("\n".join(rows + ["body"]), 11)

    def test_words_of_the_head(self):
        for at, row in ((1, "width"), (1, "width 4 4"), (1, "width 04"), (1, "width 1234567890"), (1, "width four"),
                        (1, "width -0"), (1, "width 4x"), (2, "lanes 4"), (2, "lanes 1 4 1"), (2, "lanes 1, 4"),
                        (3, "blocks 1"), (3, "blocks 1 1"), (3, "blocks 1, 1, 1"), (3, "blocks tiles n + 0, 1"),
                        (3, "blocks tiles n - 0, 1"), (3, "blocks tiles n + -1, 1"), (3, "blocks tiles 4, 1"),
                        (3, "blocks 1 + 1, 1"), (3, "blocks size n, 1"), (4, "size n rests"), (4, "size rests 0"),
                        (4, "size n 0 1"), (4, "size n rests 0, 1"), (4, "size n rests a"), (4, "size abcdefghi rests 0"),
                        (6, "promise n <= 3"), (6, "promise n - 0 < 3"), (6, "promise n - 1 <= 3"), (6, "promise n - 0 <= m"),
                        (6, "promise n 0 <= 3"), (6, "promise n - 00 <= 3"), (6, "promise n - 0 <= 3 3"), (8, "far a"),
                        (8, "far a 4"), (8, "far a[n]"), (9, "shared s"), (9, "shared s n"), (9, "shared 4 4"), (10, "body:")):
            rows = HEAD.split("\n")[:-1]
            rows[at - 1] = row
            self.wrong("\n".join(rows), at)

    def test_words_of_the_body(self):
        for row in ("take x a[block 0: 0, 1: 0]", "take x from a", "take x from a[]", "take x from a[block 0: 0,]",
                    "take x from a[block 0 0, 1: 0]", "take x from a[block 0: 0, 1: 0", "take x from [1: 0]",
                    "take 5 from a[1: 0]", "take x from a[block: 0]", "take x from a[tiles n + 0: 0]",
                    "take x from a[turn t 1: 0]", "take x from s[lane]", "take x from s[(1 + 1]", "take x from s[(1 2)]",
                    "take x from s[(1 % 2)]", "take x from s[(1 mod lane 0)]", "take x from s[(1 // (1 + 1))]",
                    "take x from s[1 + 1]", "take x from s[-]", "take x from s[-0]", "take x from s[0x]",
                    "take x from s[((1))]", "take x from s[(1 / 2)]", "take x from s[1] meet", "take X from s[1]",
                    "let y = f", "let y f()", "let y = f(x,)", "let y = f(x y)", "let y = f(5)", "let = f()", "let y == f()",
                    "put x to s[1]", "put x into", "put into s[1]", "add x into s[1]", "add to s[1]", "meet 1", "meet:", "meat",
                    "short k:", "short k 4", "short 4:", "short k 4: meet", "long t from 0:", "long t from 0 to 1",
                    "long t 0 to 1:", "long from 0 to 1:", "if:", "if small 1 < 2", "if small 1 = 2:", "if small 1 > 2:",
                    "if 1 < 2:", "if order 1: 0 < 2: 0:", "if order 1 <= 2: 0:", "if within 1: 0 n:", "if within 1: 0 of 5:",
                    "if not:", "if (small 1 < 2):", "if (small 1 < 2 and):", "if small 1 < 2 and small 1 < 2:",
                    "if (small 1 < 2 nor small 1 < 2):", "if inside 1: 0 of n:", "take x from s[(1 == 2)]",
                    "else:", "else", "5", "=", "takex from s[1]", "short k4:"):
            self.in_body(row + "\n", 1)
            self.in_body("meet\n\n" + row + "\nmeat\n", 3)

    def test_blanks_ahead(self):
        self.in_body(" meet\n", 1)
        self.in_body("  meet\n", 1)
        self.in_body("meet\n  meet\n", 2)
        self.in_body("short k 1:\n meet\n", 2)
        self.in_body("short k 1:\n    meet\n", 2)
        self.in_body("short k 1:\n  meet\n   meet\n", 3)
        self.in_body("short k 1:\n  meet\n meet\n", 3)
        self.in_body("if small 1 < 2:\n  meet\n  else:\n    meet\n", 3)
        self.in_body("if small 1 < 2:\n  meet\nelse:\nmeet\n", 4)
        self.in_body("if small 1 < 2:\nmeet\nelse:\n  meet\n", 3)
        self.in_body("if small 1 < 2:\n  meet\nelse:\n  meet\nelse:\n  meet\n", 5)
        self.in_body("short k 1:\n  meet\nelse:\n  meet\n", 3)
        self.in_body("meet\n else:\n", 2)

    def test_else_belongs_to_the_if_at_its_level(self):
        guard = ("small", ("is", 1), "less", ("is", 2))
        text = HEAD + "if small 1 < 2:\n  if small 1 < 2:\n    meet\n  meet\nelse:\n  short k 1:\n"
        self.assertEqual(kernel_of(text).body, (
            ("if", guard, (("if", guard, (("meet",),), ()), ("meet",)), (("short", "k", 1, ()),)),))
        text = HEAD + "if small 1 < 2:\n  if small 1 < 2:\n  else:\n\n    meet\n"
        self.assertEqual(kernel_of(text).body, (("if", guard, (("if", guard, (), (("meet",),)),), ()),))

    def test_the_longest_numbers_and_names(self):
        text = text_of(example()).replace("promise n - 0 <= 3", "promise n - 0 <= 999999999").replace("f(x, x)", "abcdefgh(x)")
        self.assertEqual(text_of(kernel_of(text)), text)
        self.assertEqual(kernel_of(text).promises[0], ("n", None, 999999999))
        self.wrong(text.replace("999999999", "1000000000"), 6)
        self.wrong(text.replace("abcdefgh(", "abcdefghi("), 12)

    def test_words_of_rows_may_be_names(self):
        text = """\
width 1
lanes 1 1
blocks 1, 1
size size rests 0
far from size
shared into 1
body
take take from from[tiles size: (rest size mod 2)]
let let = let(take, take)
long turn from 0 to tiles size:
  short lane 1:
    put let into into[turn lane]
    if within turn turn: rest size of size:
      add let to from[turn turn + 1: turn lane]
"""
        self.assertEqual(text_of(kernel_of(text)), text)

    def test_errors_of_kernels(self):
        rows = HEAD.split("\n")[:-1]
        for at, row, error in ((1, "width 9", BadWidth), (1, "width -4", BadWidth), (2, "lanes 4 8", BadLanes),
                               (2, "lanes 1 -4", BadLanes), (3, "blocks tiles k, 1", BadBlocks),
                               (3, "blocks block 0, 1", BadBlocks), (3, "blocks 1, 10", BadBlocks),
                               (4, "size n rests 4", BadSizes), (4, "size n rests 1 0", BadSizes),
                               (6, "promise n - n <= 1", BadPromises), (6, "promise 0 - 0 <= 1", BadPromises),
                               (6, "promise n - k <= 1", BadPromises), (8, "far a n m n", BadArrays),
                               (9, "shared s 17", BadArrays), (9, "shared a 1", BadArrays)):
            with self.assertRaises(error):
                kernel_of("\n".join(rows[:at - 1] + [row] + rows[at:]))
        for body, point, word in (("take x from a[1: 0, lane 2: 0]\n", None, None), ("take x from s[lane 2, 1]\n", 0, "form"),
                                  ("take x from s[(1 // 0), 1]\n", 0, "form"), ("take x from s[(1 mod 65), 1]\n", 0, "form"),
                                  ("meet\nshort k 9:\n", 1, "form"), ("take x from s[1]\n", 0, "where"),
                                  ("let x = f(a, b, c, d, e)\n", 0, "form"), ("put x into s[1, 1]\n", 0, "word"),
                                  ("take x from q[1]\n", 0, "unknown"), ("meet\n" * 81, 80, "many")):
            if point is None:
                self.in_body(body, 1)
                continue
            with self.assertRaises(BadBody) as caught:
                kernel_of(HEAD + body)
            self.assertEqual((caught.exception.point, caught.exception.word), (point, word))


if __name__ == "__main__":
    unittest.main()
