"""Changes of nests as texts: bodies written anew, with the old points of their statements and old turns."""

from lanesmeet.nests import items_of
from lanesmeet.parts import Renamer, plain_spot, with_more
from lanesmeet.rewriting import sides_of, with_blocks


class Draft:
    """Statements of one block, and the old points of these and of all that stands in them, in the order of the text.

    The old point of a statement that is new is None.
    """

    def __init__(self, statements, olds):
        self.statements = statements
        self.olds = olds


def put_together(drafts):
    """The draft of what stands in several drafts, one behind the other."""
    statements = ()
    olds = ()
    for draft in drafts:
        statements = statements + draft.statements
        olds = olds + draft.olds
    return Draft(statements, olds)


def around_it(statement, old, blocks):
    """The draft of a statement with these drafts as its blocks."""
    inner = put_together(blocks)
    return Draft((with_blocks(statement, [block.statements for block in blocks]),), (old,) + inner.olds)


def order_guard(one, other):
    """The guard that a form is at most another one."""
    return "order", plain_spot(one), plain_spot(other)


class Changer:
    """A nest that is written anew with a change of one of its items.

    names are the new names of turns, by the old ones, with what is added to them; terms tells for old
    points of loops what form their old turns have in the new text, where it is not the turn itself.
    """

    def __init__(self, nest, change):
        self.nest = nest
        self.rows = items_of(nest)
        self.change = change
        self.names = {}
        self.terms = {}

    def whole_draft(self):
        """The draft of the whole body."""
        return self.draft_of(())

    def draft_of(self, seat):
        """The draft of a block."""
        items = self.rows[seat]
        heads = [item[0] for item in items]
        if self.change[1] not in heads:
            return put_together([self.plain_draft(item) for item in items])
        at = heads.index(self.change[1])
        word = self.change[0]
        ahead = [self.plain_draft(item) for item in items[:at]]
        if word == "swap":
            own = [self.plain_draft(items[at + 1]), self.plain_draft(items[at])]
        elif word == "exchange":
            own = [self.exchanged_draft(heads[at])]
        elif word == "part":
            own = self.parted_drafts(heads[at], self.change[2])
        elif word == "join":
            own = [self.joined_draft(heads[at], heads[at + 1])]
        else:
            own = [self.shifted_draft(heads[at], self.change[2])]
        count = 2 if word in ("swap", "join") else 1
        return put_together(ahead + own + [self.plain_draft(item) for item in items[at + count:]])

    def plain_draft(self, item):
        """The draft of an item that is not changed itself."""
        drafts = []
        for point in item:
            blocks = [self.draft_of((point, side)) for side in sides_of(self.nest.statements[point])]
            drafts.append(around_it(self.written_anew(point), point, blocks))
        return put_together(drafts)

    def written_anew(self, point):
        """The statement of a point, with new names of turns."""
        return Renamer(self.names).new_statement(self.nest.statements[point])

    def rows_draft(self, items):
        """The draft of several items, one behind the other."""
        return put_together([self.plain_draft(item) for item in items])

    def exchanged_draft(self, point):
        """The draft of a loop and the one loop in it, this one outside."""
        inner = point + 1
        _, name, low, high, _ = self.nest.statements[point]
        _, other, first, last, _ = self.nest.statements[inner]
        guards = []
        begin = first
        end = last
        if first[:2] == ("turn", name):
            begin = with_more(low, first[2])
            guards.append(order_guard(first, ("turn", other, 0)))
        if last[:2] == ("turn", name):
            end = with_more(high, last[2] - 1)
            guards.append(order_guard(("turn", other, 1), last))
        block = self.draft_of((inner, None))
        if guards:
            guard = guards[0] if len(guards) == 1 else ("and", guards[0], guards[1])
            block = around_it(("if", guard, (), ()), None, [block, Draft((), ())])
        within = around_it(("long", name, low, high, ()), point, [block])
        return around_it(("long", other, begin, end, ()), inner, [within])

    def parted_drafts(self, point, count):
        """The drafts of the two loops, of the first items and of the others."""
        items = self.rows[(point, None)]
        statement = self.nest.statements[point]
        return [around_it(statement, point, [self.rows_draft(items[:count])]),
                around_it(statement, point, [self.rows_draft(items[count:])])]

    def joined_draft(self, point, later):
        """The draft of one loop of the items of two."""
        name = self.nest.statements[point][1]
        first = self.rows_draft(self.rows[(point, None)])
        self.names[self.nest.statements[later][1]] = (name, 0)
        self.terms[later] = ("turn", name, 0)
        second = self.rows_draft(self.rows[(later, None)])
        self.names = {}
        return around_it(self.nest.statements[point], point, [put_together([first, second])])

    def shifted_draft(self, point, more):
        """The draft of a loop whose turns are greater by more."""
        word, name, low, high, _ = self.nest.statements[point]
        self.names[name] = (name, -more)
        self.terms[point] = ("turn", name, -more)
        block = self.rows_draft(self.rows[(point, None)])
        self.names = {}
        return around_it((word, name, with_more(low, more), with_more(high, more), ()), point, [block])

    def old_turn(self, point):
        """The form that the old turns of the loop of a point have in the new text."""
        return self.terms.get(point, ("turn", self.nest.statements[point][1], 0))
