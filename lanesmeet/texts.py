"""Texts of kernels: written, and read."""

from lanesmeet.bodies import is_spot_part
from lanesmeet.errors import BadText
from lanesmeet.kernels import Kernel, check_kernel
from lanesmeet.reading import GUARD_SIGNS, SMALL_SIGNS, Reader

STEP = "  "


def sign_for(word, table):
    """The sign that the table has for the word."""
    for sign, own in table:
        if own == word:
            return sign
    return None


def form_text(form):
    """A large form as it is written."""
    word, name, number = form
    if word == "none":
        return str(number)
    if number == 0:
        return f"{word} {name}"
    return f"{word} {name} + {number}" if number > 0 else f"{word} {name} - {-number}"


def small_text(small):
    """A small as it is written."""
    word = small[0]
    if word == "is":
        return str(small[1])
    if word in ("lane", "turn", "rest"):
        return f"{word} {small[1]}"
    sign = sign_for(word, SMALL_SIGNS)
    right = str(small[2]) if word in ("over", "rest of") else small_text(small[2])
    return f"({small_text(small[1])} {sign} {right})"


def part_text(part):
    """A spot or a small as it is written."""
    if is_spot_part(part):
        return f"{form_text(part[0])}: {small_text(part[1])}"
    return small_text(part)


def place_text(place):
    """A place as it is written."""
    parts = ", ".join([part_text(part) for part in place[1]])
    return f"{place[0]}[{parts}]"


def guard_text(guard):
    """A guard as it is written."""
    word = guard[0]
    if word == "small":
        sign = sign_for(guard[2], GUARD_SIGNS)
        return f"small {small_text(guard[1])} {sign} {small_text(guard[3])}"
    if word == "order":
        return f"order {part_text(guard[1])} <= {part_text(guard[2])}"
    if word == "within":
        return f"within {part_text(guard[1])} of {guard[2]}"
    if word == "not":
        return f"not {guard_text(guard[1])}"
    return f"({guard_text(guard[1])} {word} {guard_text(guard[2])})"


def statement_text(statement):
    """The row of a statement as it is written, without blanks ahead."""
    word = statement[0]
    if word == "take":
        return f"take {statement[1]} from {place_text(statement[2])}"
    if word == "let":
        names = ", ".join(statement[3])
        return f"let {statement[1]} = {statement[2]}({names})"
    if word == "put":
        return f"put {statement[2]} into {place_text(statement[1])}"
    if word == "add":
        return f"add {statement[2]} to {place_text(statement[1])}"
    if word == "short":
        return f"short {statement[1]} {statement[2]}:"
    if word == "long":
        return f"long {statement[1]} from {form_text(statement[2])} to {form_text(statement[3])}:"
    return f"if {guard_text(statement[1])}:" if word == "if" else "meet"


def block_rows(block, blanks):
    """The rows of a block, with these blanks ahead."""
    rows = []
    for statement in block:
        rows.append(blanks + statement_text(statement))
        word = statement[0]
        if word in ("short", "long"):
            rows.extend(block_rows(statement[-1], blanks + STEP))
        if word == "if":
            rows.extend(block_rows(statement[2], blanks + STEP))
            if statement[3]:
                rows.append(blanks + "else:")
                rows.extend(block_rows(statement[3], blanks + STEP))
    return rows


def head_rows(kernel):
    """The rows of a kernel ahead of those of its body."""
    rows = [f"width {kernel.width}", f"lanes {kernel.lanes[0]} {kernel.lanes[1]}"]
    rows.append(f"blocks {form_text(kernel.blocks[0])}, {form_text(kernel.blocks[1])}")
    for name, rests in kernel.sizes:
        rows.append(" ".join(["size", name, "rests"] + [str(rest) for rest in rests]))
    for a, b, c in kernel.promises:
        rows.append(f"promise {a or 0} - {b or 0} <= {c}")
    for sort, name, counts in kernel.arrays:
        rows.append(" ".join([sort, name] + [str(count) for count in counts]))
    return rows


def text_of(kernel):
    """The text of the kernel."""
    check_kernel(kernel)
    rows = head_rows(kernel) + ["body"] + block_rows(kernel.body, "")
    return "".join([row + "\n" for row in rows])


class Source:
    """The rows of a text that count, read one behind the other."""

    def __init__(self, text):
        lines = text.split("\n")
        if lines[-1] == "":
            lines.pop()
        self.end_row = len(lines) + 1
        self.rows = []
        for at, line in enumerate(lines):
            bare = line.lstrip(" ")
            if bare and not bare.startswith("#"):
                self.rows.append((at + 1, len(line) - len(bare), bare))
        self.at = 0

    def next_row(self):
        """The number of the next row; behind the last one, one more than there are."""
        return self.rows[self.at][0] if self.at < len(self.rows) else self.end_row

    def blanks(self):
        """The blanks ahead of the next row, -1 if there is none."""
        return self.rows[self.at][1] if self.at < len(self.rows) else -1

    def next_reader(self):
        """A reader of the next row."""
        if self.at == len(self.rows):
            raise BadText(self.end_row)
        return Reader(self.rows[self.at][2], self.next_row())

    def step(self):
        """Goes on to the next row."""
        self.at = self.at + 1

    def begun(self, words):
        """The reader of the next row, behind its first word, if that is one of words; otherwise None."""
        reader = self.next_reader()
        if self.blanks() > 0:
            raise BadText(self.next_row())
        if reader.ahead() not in words:
            return None
        reader.step()
        self.step()
        return reader

    def must(self, word):
        """The reader of the next row, behind its first word, which must be this one."""
        reader = self.begun((word,))
        if reader is None:
            raise BadText(self.next_row())
        return reader

    def read_width(self):
        """Reads the row of the width."""
        reader = self.must("width")
        number = reader.read_number()
        reader.finish()
        return number

    def read_lanes(self):
        """Reads the row of the lanes."""
        reader = self.must("lanes")
        first = reader.read_number()
        second = reader.read_number()
        reader.finish()
        return first, second

    def read_blocks(self):
        """Reads the row of the blocks."""
        reader = self.must("blocks")
        first = reader.read_form()
        reader.eat(",")
        second = reader.read_form()
        reader.finish()
        return first, second

    def read_sizes(self):
        """Reads the rows of the sizes."""
        found = []
        reader = self.begun(("size",))
        while reader is not None:
            name = reader.read_name()
            reader.eat("rests")
            found.append((name, reader.read_all_numbers()))
            reader = self.begun(("size",))
        return tuple(found)

    def read_promises(self):
        """Reads the rows of the promises."""
        found = []
        reader = self.begun(("promise",))
        while reader is not None:
            a = self.read_promised(reader)
            reader.eat("-")
            b = self.read_promised(reader)
            reader.eat("<=")
            found.append((a, b, reader.read_number()))
            reader.finish()
            reader = self.begun(("promise",))
        return tuple(found)

    def read_promised(self, reader):
        """Reads a name of a promise, None for "0"."""
        if reader.ahead() == "0":
            reader.eat("0")
            return None
        return reader.read_name()

    def read_arrays(self):
        """Reads the rows of the arrays."""
        found = []
        reader = self.begun(("far", "shared"))
        while reader is not None:
            sort = reader.pieces[0]
            name = reader.read_name()
            found.append((sort, name, reader.read_all_names() if sort == "far" else reader.read_all_numbers()))
            reader = self.begun(("far", "shared"))
        return tuple(found)

    def read_block(self, blanks):
        """Reads the statements that have these blanks ahead, and what stands in them."""
        found = []
        while self.blanks() >= blanks:
            if self.blanks() > blanks:
                raise BadText(self.next_row())
            found.append(self.read_statement(blanks))
        return tuple(found)

    def read_statement(self, blanks):
        """Reads a statement and what stands in it."""
        reader = self.next_reader()
        self.step()
        word = reader.step()
        if word == "short":
            name = reader.read_name()
            count = reader.read_number()
            self.colon(reader)
            return word, name, count, self.read_block(blanks + 2)
        if word == "long":
            name = reader.read_name()
            reader.eat("from")
            first = reader.read_form()
            reader.eat("to")
            second = reader.read_form()
            self.colon(reader)
            return word, name, first, second, self.read_block(blanks + 2)
        if word == "if":
            guard = reader.read_guard()
            self.colon(reader)
            block = self.read_block(blanks + 2)
            return word, guard, block, self.read_other_block(blanks)
        found = read_plain(reader, word)
        reader.finish()
        return found

    def colon(self, reader):
        """Reads the ":" at the end of a row."""
        reader.eat(":")
        reader.finish()

    def read_other_block(self, blanks):
        """Reads the second block of an if, () if it has none."""
        if self.blanks() != blanks:
            return ()
        reader = self.next_reader()
        if reader.ahead() != "else":
            return ()
        reader.eat("else")
        self.colon(reader)
        self.step()
        found = self.read_block(blanks + 2)
        if not found:
            raise BadText(self.next_row())
        return found


def read_plain(reader, word):
    """Reads a statement without blocks, behind its first word."""
    if word == "take":
        name = reader.read_name()
        reader.eat("from")
        return word, name, reader.read_place()
    if word == "let":
        name = reader.read_name()
        reader.eat("=")
        function = reader.read_name()
        reader.eat("(")
        return word, name, function, reader.read_names(")")
    if word == "put":
        name = reader.read_name()
        reader.eat("into")
        return word, reader.read_place(), name
    if word == "add":
        name = reader.read_name()
        reader.eat("to")
        return word, reader.read_place(), name
    if word != "meet":
        raise BadText(reader.row)
    return (word,)


def kernel_of(text):
    """The kernel that a text tells."""
    if not isinstance(text, str):
        raise BadText(None)
    source = Source(text)
    width = source.read_width()
    lanes = source.read_lanes()
    blocks = source.read_blocks()
    sizes = source.read_sizes()
    promises = source.read_promises()
    arrays = source.read_arrays()
    source.must("body").finish()
    body = source.read_block(0)
    return Kernel(width, lanes, blocks, sizes, promises, arrays, body)
