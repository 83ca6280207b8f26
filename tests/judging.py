"""What the judge is asked, gone through instance by instance at given sizes, as the document's words say it."""

from lanesmeet.beside import compared
from lanesmeet.machine import Run
from lanesmeet.maps import fetch, image
from lanesmeet.meaning import cases_of, cell_of, is_there

WORDS = ["unfetched", "strange", "double", "undone", "mixed", "turned"]


def giver_of(kernel, point, word):
    """The last take or let of a word ahead of a statement in its block of text."""
    own = [other for other in range(point) if kernel.around(other) == kernel.around(point)
           and kernel.statements[other][0] in ("take", "let") and kernel.statements[other][1] == word]
    return own[-1]


def numbers_of(kernel, sizes, instance, mark=""):
    """The numbers of an instance, by the names of its cases."""
    found = {"tiles " + name: pair[0] for name, pair in sizes.items()}
    found.update({f"block {axis}" + mark: instance[1][axis] for axis in (0, 1)})
    for loop, turn in zip(kernel.loops[instance[0]], instance[3]):
        if loop[0] == "long":
            found["turn " + loop[1] + mark] = turn
    return found


def choice_of(kernel, sizes, instance):
    """The choice of the case of an instance that is there."""
    shorts = tuple(turn for loop, turn in zip(kernel.loops[instance[0]], instance[3]) if loop[0] == "short")
    rests = tuple(sizes[name][1] for name, _ in kernel.sizes)
    numbers = numbers_of(kernel, sizes, instance)
    numbers[None] = 0
    for choice, system in cases_of(kernel, instance[0]):
        if choice[:3] == (instance[2], shorts, rests):
            if all(numbers[a] - numbers[b] <= c for a, b, c in system):
                return choice
    raise AssertionError("there is no such case")


def can_cross(kernel, one, other):
    words = {kernel.statements[one][0], kernel.statements[other][0]}
    return "put" in words or words == {"add", "take"}


class Bench:
    """All instances of two fellows at given sizes, their images, and what is wrong with them, word by word."""

    def __init__(self, one, other, chart, sizes):
        self.one, self.other, self.chart, self.sizes = one, other, chart, sizes
        self.all_of = [deed for done in Run(other, sizes).lists.values() for deed in done]
        self.deeds = [deed for deed in self.all_of if deed[0] in chart[0]]
        self.images = {deed: image(one, other, chart, sizes, deed) for deed in self.deeds}
        self.own = {}
        for deed in self.deeds:
            found = fetch(one, other, chart, sizes, deed) if deed[0] in chart[1] else (None, deed)
            self.own[deed] = found

    def behind(self, kernel, one, other):
        return compared(kernel, (one[0], one[3]), (other[0], other[3]))

    def cell(self, deed):
        return cell_of(self.other, self.sizes, deed)

    def unfetched(self):
        return {deed for deed in self.deeds if deed[0] in self.chart[1] and self.is_unfetched(deed)}

    def is_unfetched(self, read):
        if self.own[read] is None:
            return True
        put = self.own[read][0]
        if self.cell(put) != self.cell(read) or self.behind(self.other, put, read) >= 0:
            return True
        for deed in self.all_of:
            if self.other.statements[deed[0]][0] == "put" and deed[1] == read[1] and self.cell(deed) == self.cell(read):
                if self.behind(self.other, put, deed) < 0 and self.behind(self.other, deed, read) < 0:
                    return True
        return False

    def strange(self):
        found = set()
        for deed in self.deeds:
            own = self.images[deed]
            word = self.other.statements[deed[0]][0]
            if not is_there(self.one, self.sizes, own) or self.one.statements[own[0]][0] != word:
                found.add(deed)
            elif cell_of(self.one, self.sizes, own) != self.cell(self.own[deed][1]):
                found.add(deed)
        return found

    def double(self):
        return {(one, other) for one in self.deeds for other in self.deeds
                if one != other and self.images[one] == self.images[other] and self.stand_ascending(one, other)}

    def stand_ascending(self, one, other):
        """Whether two deeds stand in the order of double's keys; of one case, by their numbers."""
        keys = [(deed[0], choice_of(self.other, self.sizes, deed)) for deed in (one, other)]
        longs = [[turn for loop, turn in zip(self.other.loops[deed[0]], deed[3]) if loop[0] == "long"]
                 for deed in (one, other)]
        return keys[0] < keys[1] or keys[0] == keys[1] and (one[1], longs[0]) < (other[1], longs[1])

    def undone(self):
        images = set(self.images.values())
        return {deed for done in Run(self.one, self.sizes).lists.values() for deed in done
                if self.one.statements[deed[0]][0] != "meet" and deed not in images}

    def mixed(self):
        found = set()
        for deed in self.deeds:
            if self.other.statements[deed[0]][0] != "take":
                takes = self.alike(self.other, deed[0], self.one, self.chart[0][deed[0]][0])
                if takes is None or any(self.images[(take,) + deed[1:]][1:] != self.images[deed][1:] for take in takes):
                    found.add(deed)
        return found

    def alike(self, other, point, one, target):
        """The takes whose words are read at a point, None unless they come as those of a point of one."""
        own, told = other.statements[point], one.statements[target]
        if told[0] == "take":
            return None
        names = (own[3], told[3]) if own[0] == "let" else ((own[2],), (told[2],))
        if len(names[0]) != len(names[1]):
            return None
        found = []
        for word, mate in zip(*names):
            giver, other_giver = giver_of(other, point, word), giver_of(one, target, mate)
            first, second = other.statements[giver], one.statements[other_giver]
            if first[0] != second[0] or first[0] == "let" and first[2] != second[2]:
                return None
            if first[0] == "take":
                if giver not in self.chart[0] or self.chart[0][giver][0] != other_giver:
                    return None
                found.append(giver)
            else:
                later = self.alike(other, giver, one, other_giver)
                if later is None:
                    return None
                found.extend(later)
        return found

    def turned(self):
        found = set()
        for one in self.deeds:
            for other in self.deeds:
                first, second = self.images[one], self.images[other]
                if not can_cross(self.one, first[0], second[0]) or one == other:
                    continue
                if cell_of(self.one, self.sizes, first) != cell_of(self.one, self.sizes, second):
                    continue
                if self.behind(self.one, first, second) < 0:
                    if self.behind(self.other, self.own[other][1], self.own[one][1]) < 0:
                        found.add((one, other))
        return found

    def told(self, most):
        """What is wrong, by words, up to and with the first word that has something, or the word most."""
        found = {}
        for word in WORDS[:most + 1]:
            found[word] = getattr(self, word)()
            if found[word] and word in ("unfetched", "strange"):
                # What comes behind these has no meaning any more.
                return found
        return found
