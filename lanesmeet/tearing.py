"""What a plan does to the deeds of a nest, told for all sizes by the cases of the cut: where each goes, and when."""

from lanesmeet.cases import MARK, check_many, marked_name, marked_rows, meeting_rows, point_cases
from lanesmeet.folding import NEVER, all_of, none_of, same_terms, some_of
from lanesmeet.forms import place_of
from lanesmeet.images import Shade, shade_ahead, spare_rows
from lanesmeet.nests import piece_names, piece_points
from lanesmeet.pairs import ahead, first_stand, second_stand, sign_of
from lanesmeet.races import all_reached, do_cross
from lanesmeet.ways import weighed


class Deed:
    """A case of a deed of the cut, as a plan lays it out: its number in the cut's cases, its offsets and its lane.

    shorts are the turns of the short loops of the kernel that is made.
    """

    def __init__(self, point, number, choice, offsets, lane, shorts):
        self.point = point
        self.number = number
        self.choice = choice
        self.offsets = offsets
        self.lane = lane
        self.shorts = shorts
        self.system = 0


class Ledger:
    """All deeds of a nest as a plan lays them out; what is made is told by woven."""

    def __init__(self, nest, woven):
        self.nest = nest
        self.woven = woven
        self.names = piece_names(nest)
        self.ends = {old: at for at, old in enumerate(woven.sheet.olds) if isinstance(old, int)}

    def strands_at(self, point):
        """What the loops around a point of the nest become, the outermost first."""
        return [self.woven.weaver.strands[outer] for _, _, outer in self.nest.loops[point]]

    def cases_at(self, point):
        """The cases of the cut for a point of the nest."""
        return point_cases(self.woven.cut, self.woven.cut_points[point])

    def bare_rows(self, point, number):
        """The rows of a case but for those of the one block of the cut."""
        rows = self.cases_at(point)[number][1]
        spare = spare_rows(self.woven.cut)
        return rows[:spare] + rows[spare + 4:]

    def deeds_at(self, point):
        """All deeds of a point of the nest."""
        strands = self.strands_at(point)
        found = []
        for number, (choice, _) in enumerate(self.cases_at(point)):
            offsets = choice[1] if self.woven.layout.width > 1 else (0,) * len(strands)
            pairs = list(zip(strands, offsets))
            lane = [0, 0]
            for strand, offset in pairs:
                if strand.axis is not None:
                    lane[strand.axis] = offset % strand.width
            shorts = tuple([offset // strand.width for strand, offset in pairs if strand.short])
            found.append(Deed(point, number, choice, offsets, tuple(lane), shorts))
        return found

    def terms_at(self, point, mark):
        """The terms of the blocks and long turns of a point's deeds in what is made, with a mark for a second one."""
        terms = {"block 0": (None, 0), "block 1": (None, 0)}
        for strand in self.strands_at(point):
            name = "turn " + strand.name
            own = f"block {strand.axis}" if strand.is_block else name
            terms[own] = (marked_name(name) if mark else name), 0
        return terms

    def shade_of_deed(self, deed, mark):
        """The step of a deed in what is made, its point being that of its piece."""
        point = self.ends[self.names[deed.point]]
        terms = self.terms_at(deed.point, mark)
        return Shade(self.woven.kernel, point, deed.lane, deed.shorts, deed.choice[2], terms)

    def missed_rows(self, point):
        """Lists of rows, one for each way in which the block of a point's deeds is not there."""
        found = []
        for strand in self.strands_at(point):
            if strand.is_block:
                name = "turn " + strand.name
                word, size, count = self.woven.layout.blocks[strand.axis]
                found.append([(name, None, -1)])
                found.append([(None if word == "none" else "tiles " + size, name, -count)])
        return found

    def all_missed(self):
        """All pairs (deed, rows) that tell that a deed is missed."""
        found = []
        for point in piece_points(self.nest):
            for rows in self.missed_rows(point):
                deeds = self.deeds_at(point)
                found.extend([(deed, self.bare_rows(point, deed.number) + rows) for deed in deeds])
                check_many(len(found))
        return found

    def by_cells(self):
        """The deeds that come to each cell, told by rests, array and offsets, by points; without those never there."""
        found = {}
        systems = {}
        live = {}
        for point in self.names:
            cells = all_reached(self.woven.cut, self.woven.cut_points[point])
            for deed in self.deeds_at(point):
                rows = tuple(self.bare_rows(point, deed.number))
                deed.system = systems.setdefault(rows, len(systems))
                if deed.system not in live:
                    live[deed.system] = weighed(rows, {})[0] is not None
                if live[deed.system]:
                    key = (deed.choice[2],) + cells[deed.number][:2]
                    found.setdefault(key, {}).setdefault(point, []).append(deed)
        return found

    def can_tear(self, one, other):
        """Whether deeds of two points of the nest may cross."""
        arrays = [place_of(self.nest.statements[point])[0] for point in (one, other)]
        return arrays[0] == arrays[1] and do_cross(self.nest, one, other)

    def pair_rows(self, first, second):
        """The rows that tell of two deeds that they are at one cell; None if they cannot be."""
        cut = self.woven.cut
        points = self.woven.cut_points
        cell = meeting_rows(all_reached(cut, points[first.point])[first.number],
                            all_reached(cut, points[second.point])[second.number])
        if cell is None:
            return None
        later = self.bare_rows(second.point, second.number)[spare_rows(cut):]
        return self.bare_rows(first.point, first.number) + marked_rows(later) + cell

    def torn_saying(self, first, second):
        """The saying that the first deed is ahead of the second one in the nest, and both are torn."""
        cut = self.woven.cut
        points = self.woven.cut_points
        early = ahead(first_stand(cut, points[first.point], first.choice),
                      second_stand(cut, points[second.point], second.choice))
        one = self.shade_of_deed(first, "")
        other = self.shade_of_deed(second, MARK)
        equal = same_terms(one.numbers_told()[:2], other.numbers_told()[:2])
        parts = [none_of(equal)]
        if first.lane != second.lane:
            parts.append(none_of(shade_ahead(one, other)))
        return all_of([early, some_of(parts)])

    def all_torn(self):
        """All tuples (deed, deed, rows, saying) that tell of torn deeds; of those that are told alike just one."""
        found = []
        known = {}
        lots = self.by_cells()
        for key in lots:
            own = lots[key]
            pairs = [(one, other) for one in own for other in own if self.can_tear(one, other)]
            for one, other in pairs:
                for first in own[one]:
                    for second in own[other]:
                        mark = self.pair_key(first, second)
                        if mark not in known:
                            known[mark] = True
                            self.add_torn(first, second, found)
                check_many(len(known))
        return found

    def add_torn(self, first, second, found):
        """Adds what is told of two deeds, unless they are surely never torn."""
        rows = self.pair_rows(first, second)
        if rows is not None:
            saying = self.torn_saying(first, second)
            if saying != NEVER:
                found.append((first, second, rows, saying))

    def pair_key(self, first, second):
        """What stands for all that is told of two deeds at cells with the same offsets."""
        cells = all_reached(self.woven.cut, self.woven.cut_points[first.point])[first.number][2]
        later = all_reached(self.woven.cut, self.woven.cut_points[second.point])[second.number][2]
        signs = tuple([sign_of(one, other) for one, other in zip(first.choice[1], second.choice[1])])
        marks = tuple([sign_of(one, other) for one, other in zip(first.shorts, second.shorts)])
        return (first.point, second.point, first.choice[2], first.system, second.system, cells, later, signs, marks,
                first.lane == second.lane)

    def sizes_by(self, rests, numbers):
        """The sizes of the nest that rests and tiles tell."""
        pairs = [(size[0], rest) for size, rest in zip(self.nest.sizes, rests)]
        width = self.woven.layout.width
        return {name: (width * numbers["tiles " + name] + rest, 0) for name, rest in sorted(pairs)}

    def nest_deed(self, deed, numbers, mark):
        """The deed of the nest that numbers tell."""
        turns = []
        for strand, offset in zip(self.strands_at(deed.point), deed.offsets):
            name = "turn " + strand.name + mark
            turns.append(self.woven.layout.width * numbers[name] + offset)
        return deed.point, (0, 0), (0, 0), tuple(turns)
