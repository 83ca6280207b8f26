"""Reading a row of a kernel's text: its words and signs, and the parts of kernels that are written with them."""

from lanesmeet.errors import BadText
from lanesmeet.forms import LETTERS, is_word

DIGITS = "0123456789"
SIGNS = ("//", "<=", "==", "[", "]", "(", ")", ":", ",", "=", "+", "-", "*", "<")
FORM_WORDS = ("block", "turn", "tiles")
SMALL_SIGNS = (("+", "plus"), ("-", "minus"), ("*", "times"), ("//", "over"), ("mod", "rest of"))
GUARD_SIGNS = (("<", "less"), ("<=", "atmost"), ("==", "same"))


def run_of(text, at, letters):
    """The index behind the letters that stand in the text from at on."""
    while at < len(text) and text[at] in letters:
        at = at + 1
    return at


def sign_at(text, at):
    """The longest sign that stands in the text at this index, None if there is none."""
    for sign in SIGNS:
        if text.startswith(sign, at):
            return sign
    return None


def pieces_of(text, row):
    """The words and signs of a row, in order."""
    found = []
    at = 0
    while at < len(text):
        if text[at] == " ":
            at = at + 1
            continue
        end = max(run_of(text, at, LETTERS), run_of(text, at, DIGITS))
        if end > at and end < len(text) and text[end] in LETTERS + DIGITS:
            raise BadText(row)
        sign = sign_at(text, at)
        if end == at and sign is None:
            raise BadText(row)
        end = end if end > at else at + len(sign)
        found.append(text[at:end])
        at = end
    return found


class Reader:
    """The words and signs of one row, read one behind the other."""

    def __init__(self, text, row):
        self.row = row
        self.pieces = pieces_of(text, row)
        self.at = 0

    def ahead(self):
        """The next word or sign, "" if there is none."""
        return self.pieces[self.at] if self.at < len(self.pieces) else ""

    def step(self):
        """Goes on to the next word or sign; returns the one that stood here."""
        piece = self.ahead()
        if not piece:
            raise BadText(self.row)
        self.at = self.at + 1
        return piece

    def eat(self, piece):
        """Goes on behind this word or sign, which must stand here."""
        if self.ahead() != piece:
            raise BadText(self.row)
        self.at = self.at + 1

    def finish(self):
        """Asks that the row ends here."""
        if self.at < len(self.pieces):
            raise BadText(self.row)

    def read_name(self):
        """Reads a name."""
        word = self.step()
        if not is_word(word):
            raise BadText(self.row)
        return word

    def read_digits(self):
        """Reads a number that is written with digits alone."""
        word = self.step()
        if word[0] not in DIGITS or len(word) > 9 or len(word) > 1 and word[0] == "0":
            raise BadText(self.row)
        return int(word)

    def read_number(self):
        """Reads a number, below 0 with a minus ahead."""
        if self.ahead() != "-":
            return self.read_digits()
        self.eat("-")
        return -self.read_above_zero()

    def read_above_zero(self):
        """Reads digits that do not stand for 0."""
        number = self.read_digits()
        if number == 0:
            raise BadText(self.row)
        return number

    def read_more(self):
        """Reads what is added to a form, if anything is."""
        if self.ahead() == "+":
            self.eat("+")
            return self.read_above_zero()
        if self.ahead() == "-":
            self.eat("-")
            return -self.read_above_zero()
        return 0

    def read_form(self):
        """Reads a large form."""
        word = self.ahead()
        if word not in FORM_WORDS:
            return "none", None, self.read_number()
        self.step()
        name = self.read_number() if word == "block" else self.read_name()
        return word, name, self.read_more()

    def read_small(self):
        """Reads a small."""
        word = self.ahead()
        if word == "(":
            return self.read_small_pair()
        if word == "lane":
            self.step()
            return word, self.read_number()
        if word in ("turn", "rest"):
            self.step()
            return word, self.read_name()
        return "is", self.read_number()

    def read_small_pair(self):
        """Reads a small in brackets."""
        self.eat("(")
        left = self.read_small()
        sign = self.step()
        word = word_for(sign, SMALL_SIGNS)
        if word is None:
            raise BadText(self.row)
        right = self.read_number() if word in ("over", "rest of") else self.read_small()
        self.eat(")")
        return word, left, right

    def read_spot(self):
        """Reads a form and a small."""
        form = self.read_form()
        self.eat(":")
        return form, self.read_small()

    def is_at_spot(self):
        """Whether a form with a ":" behind it stands here: a number or a turn may be a small as well."""
        word = self.ahead()
        if word in ("block", "tiles"):
            return True
        end = self.at + 2 if word in ("turn", "-") else self.at + 1
        if word == "turn" and self.pieces[end:end + 1] in (["+"], ["-"]):
            end = end + 2
        return self.pieces[end:end + 1] == [":"]

    def read_place(self):
        """Reads a place."""
        name = self.read_name()
        self.eat("[")
        parts = [self.read_part()]
        while self.ahead() == ",":
            self.eat(",")
            parts.append(self.read_part())
        self.eat("]")
        return name, tuple(parts)

    def read_part(self):
        """Reads a part of a place."""
        return self.read_spot() if self.is_at_spot() else self.read_small()

    def read_guard(self):
        """Reads a guard."""
        word = self.step()
        if word == "not":
            return word, self.read_guard()
        if word == "(":
            return self.read_guard_pair()
        if word == "small":
            left = self.read_small()
            sort = word_for(self.step(), GUARD_SIGNS)
            if sort is None:
                raise BadText(self.row)
            return word, left, sort, self.read_small()
        if word == "order":
            first = self.read_spot()
            self.eat("<=")
            return word, first, self.read_spot()
        if word != "within":
            raise BadText(self.row)
        spot = self.read_spot()
        self.eat("of")
        return word, spot, self.read_name()

    def read_guard_pair(self):
        """Reads two guards behind a bracket."""
        left = self.read_guard()
        word = self.step()
        if word not in ("and", "or"):
            raise BadText(self.row)
        right = self.read_guard()
        self.eat(")")
        return word, left, right

    def read_names(self, end):
        """Reads names with commas between them up to the sign end, perhaps none."""
        found = []
        if self.ahead() != end:
            found.append(self.read_name())
            while self.ahead() == ",":
                self.eat(",")
                found.append(self.read_name())
        self.eat(end)
        return tuple(found)

    def read_all_names(self):
        """Reads one name or more, to the end of the row."""
        found = [self.read_name()]
        while self.ahead():
            found.append(self.read_name())
        return tuple(found)

    def read_all_numbers(self):
        """Reads one number or more, to the end of the row."""
        found = [self.read_number()]
        while self.ahead():
            found.append(self.read_number())
        return tuple(found)


def word_for(sign, table):
    """The word that the table has for the sign, None if it has none."""
    for own, word in table:
        if own == sign:
            return word
    return None
