"""What an outcome tells of the order in which deeds at one cell were done."""

from lanesmeet.cases import cell_at
from lanesmeet.plain import is_tuple_of


def is_content(thing):
    """Whether thing is a pair of something and a tuple, as a content is."""
    return is_tuple_of(thing, 2) and isinstance(thing[1], tuple)


class CellStory:
    """The deeds at one cell, and what an outcome tells of them.

    turns has for each put how many puts are ahead of it, for adds and takes how many puts are.
    """

    def __init__(self, deeds):
        self.deeds = deeds
        self.turns = {}
        self.seen = {}

    def note(self, words, met, left):
        """Notes what the contents tell; whether they can be those of an outcome."""
        covering = {}
        for deed in self.deeds:
            if words[deed] != "add":
                if not is_content(met.get(deed)):
                    return False
                self.seen[deed] = met[deed]
            if words[deed] == "put":
                covering[repr(met[deed][0])] = deed
        return self.note_puts(covering, words, left)

    def note_puts(self, covering, words, left):
        """Goes through the puts, from that which covers nothing on; each covers the one ahead of it.

        Each put covers one content alone, so one never comes to a put twice.
        """
        count = 0
        last = None
        ahead = {"None": 0}
        while repr(last) in covering:
            put = covering[repr(last)]
            self.note_adds(self.seen[put][1], count, words)
            self.turns[put] = count
            count = count + 1
            last = put
            ahead[repr(put)] = count
        if is_content(left):
            self.note_adds(left[1], count, words)
        for deed in self.deeds:
            if words[deed] == "take" and repr(self.seen[deed][0]) in ahead:
                self.turns[deed] = ahead[repr(self.seen[deed][0])]
        return all([deed in self.turns for deed in self.deeds])

    def note_adds(self, adds, count, words):
        """Notes that so many puts are ahead of these adds."""
        for deed in self.deeds:
            if words[deed] == "add" and deed in adds:
                self.turns[deed] = count

    def is_first(self, one, other, words):
        """Whether the outcome tells that one of two deeds that cross is done ahead of the other one."""
        first = self.turns[one]
        second = self.turns[other]
        if words[one] == "put" or first != second:
            return first < second
        # The same puts are ahead of both; whether one is ahead of the other tells what this one saw or covered.
        return other not in self.seen[one][1] if words[one] == "take" else one in self.seen[other][1]


def ways_told(weft, met, left):
    """The ways of all loose pairs that an outcome tells; None if it surely is none."""
    kernel = weft.kernel
    words = {deed: kernel.statements[deed[0]][0] for deed in weft.spots}
    cells = {deed: cell_at(kernel, weft.sizes, deed) for deed in weft.spots}
    stories = {}
    for deed in weft.spots:
        stories.setdefault(cells[deed], CellStory([])).deeds.append(deed)
    for cell in stories:
        if not stories[cell].note(words, met, left.get(cell)):
            return None
    ways = []
    for one, other in weft.loose:
        ways.append((one, other) if stories[cells[one]].is_first(one, other, words) else (other, one))
    return tuple(sorted(ways))
