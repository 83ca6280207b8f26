"""The spots and smalls that statements are made of, and statements with others in their place."""

from lanesmeet.bodies import is_spot_part
from lanesmeet.forms import place_of

NOTHING = ("is", 0)


def plain_spot(form):
    """The spot that a form stands for."""
    return form, NOTHING


def with_more(form, more):
    """The form with more added to its number."""
    return form[0], form[1], form[2] + more


def parts_in_guard(guard):
    """The spots and smalls in a guard, in order."""
    word = guard[0]
    if word == "small":
        return [guard[1], guard[3]]
    if word == "order":
        return [guard[1], guard[2]]
    if word == "within":
        return [guard[1]]
    return [part for inner in guard[1:] for part in parts_in_guard(inner)]


def parts_in(statement):
    """The spots and smalls in a statement, in order; not those in its blocks. A loop's forms stand as spots."""
    word = statement[0]
    if word == "long":
        return [plain_spot(statement[2]), plain_spot(statement[3])]
    if word == "if":
        return parts_in_guard(statement[1])
    place = place_of(statement)
    return [] if place is None else list(place[1])


def forms_in(statement):
    """The large forms in a statement, not those in its blocks."""
    return [part[0] for part in parts_in(statement) if is_spot_part(part)]


def smalls_in(statement):
    """The smalls in a statement, those within spots too; not those in its blocks."""
    return [part[1] if is_spot_part(part) else part for part in parts_in(statement)]


class Renamer:
    """Writes statements anew, with other turns: names tells for some long loops (new name, what is added)."""

    def __init__(self, names):
        self.names = names

    def new_form(self, form):
        """The form as it stands in the new text."""
        if form[0] == "turn" and form[1] in self.names:
            name, more = self.names[form[1]]
            return "turn", name, form[2] + more
        return form

    def new_small(self, small):
        """The small as it stands in the new text."""
        return small

    def new_spot(self, spot):
        """The spot as it stands in the new text."""
        return self.new_form(spot[0]), self.new_small(spot[1])

    def new_place(self, place):
        """The place as it stands in the new text."""
        array, where = place
        return array, tuple([self.new_spot(part) if is_spot_part(part) else self.new_small(part) for part in where])

    def new_guard(self, guard):
        """The guard as it stands in the new text."""
        word = guard[0]
        if word == "small":
            return word, self.new_small(guard[1]), guard[2], self.new_small(guard[3])
        if word == "order":
            return word, self.new_spot(guard[1]), self.new_spot(guard[2])
        if word == "within":
            return word, self.new_spot(guard[1]), guard[2]
        return (word,) + tuple([self.new_guard(inner) for inner in guard[1:]])

    def new_statement(self, statement):
        """The statement as it stands in the new text; blocks stay as they are."""
        word = statement[0]
        if word == "take":
            return word, statement[1], self.new_place(statement[2])
        if word in ("put", "add"):
            return word, self.new_place(statement[1]), statement[2]
        if word == "long":
            return word, statement[1], self.new_form(statement[2]), self.new_form(statement[3]), statement[4]
        if word == "if":
            return word, self.new_guard(statement[1]), statement[2], statement[3]
        return statement
