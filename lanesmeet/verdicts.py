"""What the judge asks of two kernels and a map: six words, each with a saying for each of its cases."""

from lanesmeet.bodies import words_read
from lanesmeet.cases import DEEDS, check_many, marked_rows, point_cases, points_of
from lanesmeet.folding import ALWAYS, NEVER, all_of, bound, none_of, same_term, same_terms, some_of
from lanesmeet.forms import place_of
from lanesmeet.givers import fetch_for, givers_of
from lanesmeet.images import bound_shade, capital, image_shade, own_shade, shade_ahead, source_shade, spare_rows
from lanesmeet.images import with_point
from lanesmeet.races import do_cross
from lanesmeet.wording import said

WORDS = ("unfetched", "strange", "double", "undone", "mixed", "turned")


def same_cells(one, other):
    """The saying that two cells, told as by a shade, are one."""
    if one[:2] != other[:2]:
        return NEVER
    return same_terms(one[2], other[2])


def less_numbers(ones, others):
    """The saying that the terms of the first row, as numbers, are ascending ahead of those of the second one."""
    found = NEVER
    for one, other in reversed(list(zip(ones, others))):
        less = ("row", one[0], other[0], other[1] - one[1] - 1)
        found = some_of([less, all_of([same_term(one, other), found])])
    return found


class Bench:
    """Two fellows and a map of them; shades are the images of their cases, told already.

    doers and puts are all deeds by their images and all puts at shared arrays by their cells, with bound names;
    they are told when they are first asked for.
    """

    def __init__(self, one, other, chart):
        self.one = one
        self.other = other
        self.chart = chart
        self.shades = {}
        self.doers = None
        self.puts = None

    def deed_points(self):
        """The points of the deeds, ascending."""
        return sorted(self.chart[0])

    def read_points(self):
        """The points of the reads, ascending."""
        return sorted(self.chart[1])

    def image_of(self, point, choice, tail):
        """The image of a case of a deed; with a tail that of the second one of two."""
        key = point, choice, tail
        if key not in self.shades:
            self.shades[key] = image_shade(self.one, self.chart, own_shade(self.other, point, choice, tail))
        return self.shades[key]

    def doer_of(self, point, choice, tail):
        """What does a deed's work: of a read the fetch, otherwise the deed itself."""
        own = own_shade(self.other, point, choice, tail)
        if point not in self.chart[1]:
            return own
        source = source_shade(self.chart, own)
        return with_point(source, fetch_for(self.other, source.point))

    def unfetched(self, point, choice):
        """The saying that a read of this case finds something else than what its source tells."""
        read = own_shade(self.other, point, choice, "")
        put = source_shade(self.chart, read)
        good = all_of([put.there(), same_cells(put.cell(), read.cell()), shade_ahead(put, read)])
        return some_of([none_of(good), self.overwritten(put, read)])

    def all_puts(self):
        """All puts, as pairs (shade with bound names, what their loops and ifs say), by rests, arrays and numbers."""
        found = {}
        for point in points_of(self.other, ("put",)):
            for choice, rows in point_cases(self.other, point):
                late = bound_shade(self.other, point, choice)
                own = [said(renamed(row, "turn ")) for row in rows[spare_rows(self.other) + 4:]]
                found.setdefault((choice[2],) + late.cell()[:2], []).append((late, own))
        return found

    def overwritten(self, put, read):
        """The saying that a further put at the cell of a read is behind a put and ahead of the read."""
        if self.puts is None:
            self.puts = self.all_puts()
        found = []
        for late, own in self.puts.get((read.rests,) + read.cell()[:2], []):
            order = [shade_ahead(put, late), shade_ahead(late, read)]
            found.append(bound(self.turns_bound(late), all_of(own + order)))
        return some_of(found)

    def turns_bound(self, shade):
        """The bound names of the turns of a shade."""
        return [name for name, _ in shade.numbers_told()[2:]]

    def strange(self, point, choice):
        """The saying that the image of this case is not there, or not what and where it must be."""
        image = self.image_of(point, choice, "")
        word = self.other.statements[point][0]
        if self.one.statements[image.point][0] != word:
            return ALWAYS
        cell = self.doer_of(point, choice, "").cell()
        return none_of(all_of([image.there(), same_cells(image.cell(), cell)]))

    def double(self, first, second):
        """The saying that two cases, pairs (point, choice), have one image."""
        one = self.image_of(first[0], first[1], "")
        other = self.image_of(second[0], second[1], " b")
        if not one.is_alike(other):
            return NEVER
        parts = [same_terms(one.numbers_told(), other.numbers_told())]
        if first == second:
            own = own_shade(self.other, first[0], first[1], "").numbers_told()
            parts.append(less_numbers(own, own_shade(self.other, first[0], first[1], " b").numbers_told()))
        return all_of(parts)

    def all_doers(self):
        """All deeds, as triples (names, what their cases say, image), by rests and what of their images is a number."""
        found = {}
        for deed in self.deed_points():
            for choice, rows in point_cases(self.other, deed):
                late = bound_shade(self.other, deed, choice)
                image = image_shade(self.one, self.chart, late)
                names = [name for name, _ in late.numbers_told()]
                inner = [said(renamed(row, "")) for row in rows[spare_rows(self.other):]]
                key = image.point, image.lane, image.shorts, choice[2]
                found.setdefault(key, []).append((names, inner, image))
        return found

    def undone(self, point, choice):
        """The saying that what a case of one tells is no image."""
        if self.doers is None:
            self.doers = self.all_doers()
        own = own_shade(self.one, point, choice, "")
        found = []
        for names, inner, image in self.doers.get((point, choice[0], choice[1], choice[2]), []):
            same = same_terms(image.numbers_told(), own.numbers_told())
            found.append(bound(names, all_of(inner + [same])))
        return none_of(some_of(found))

    def mixed(self, point, choice):
        """The saying that a put or add of this case has not the same word as its image."""
        takes = self.takes_alike(point, self.chart[0][point][0])
        if takes is None:
            return ALWAYS
        own = own_shade(self.other, point, choice, "")
        image = image_shade(self.one, self.chart, own)
        parts = []
        for take in takes:
            brought = image_shade(self.one, self.chart, with_point(own, take))
            if (brought.lane, brought.shorts) != (image.lane, image.shorts):
                return ALWAYS
            parts.append(same_terms(brought.numbers_told(), image.numbers_told()))
        return none_of(all_of(parts))

    def takes_alike(self, point, target):
        """The points of the takes from which the words come that are read at a point; None unless it is as in one."""
        if words_count(self.other, point) != words_count(self.one, target):
            return None
        found = []
        for giver, mate in zip(givers_of(self.other)[point], givers_of(self.one)[target]):
            later = self.givers_alike(giver, mate)
            if later is None:
                return None
            found.extend(later)
        return found

    def givers_alike(self, giver, mate):
        """As takes_alike, of two givers."""
        own = self.other.statements[giver]
        told = self.one.statements[mate]
        if own[0] != told[0]:
            return None
        if own[0] == "let":
            return self.takes_alike(giver, mate) if own[2] == told[2] else None
        return [giver] if giver in self.chart[0] and self.chart[0][giver][0] == mate else None

    def turned(self, first, second):
        """The saying that two cases, pairs (point, choice), cross, and go the other way about than their images."""
        one = self.image_of(first[0], first[1], "")
        other = self.image_of(second[0], second[1], " b")
        cell = same_cells(one.cell(), other.cell())
        if cell == NEVER:
            return NEVER
        own = self.doer_of(first[0], first[1], "")
        late = self.doer_of(second[0], second[1], " b")
        return all_of([cell, shade_ahead(one, other), shade_ahead(late, own)])


class Docket:
    """All keys of the six words with what is asked of them: (key, rows of the cases, what is told besides)."""

    def __init__(self, one, other, chart):
        self.one = one
        self.other = other
        self.bench = Bench(one, other, chart)
        self.chart = chart

    def keys_for(self, word):
        """The keys of a word, ascending, each with the rows of its cases."""
        if word == "undone":
            return single_keys(self.one, points_of(self.one, DEEDS))
        if word == "unfetched":
            return single_keys(self.other, self.bench.read_points())
        if word == "strange":
            return single_keys(self.other, self.bench.deed_points())
        if word == "mixed":
            points = [point for point in self.bench.deed_points() if self.other.statements[point][0] != "take"]
            return single_keys(self.other, points)
        return self.pair_keys(word == "double")

    def pair_keys(self, alike):
        """The keys of two cases; alike: those with one target's point, the first one not above the second one."""
        found = []
        points = self.bench.deed_points()
        for one in points:
            mates = [point for point in points if self.can_stand(one, point, alike)]
            for first, rows in point_cases(self.other, one):
                for other in mates:
                    for second, more in point_cases(self.other, other):
                        if first[2] == second[2] and (not alike or (one, first) <= (other, second)):
                            base = rows + marked_rows(more[spare_rows(self.other):])
                            found.append(((one, first, other, second), base))
                check_many(len(found))
        return found

    def can_stand(self, one, other, alike):
        """Whether two deeds' points make keys."""
        target = self.chart[0][one][0]
        mate = self.chart[0][other][0]
        return target == mate if alike else can_meet(self.one, target, mate)

    def saying_for(self, word, key, rows):
        """The saying of a key of a word."""
        return all_of([said(row) for row in rows] + [self.told_besides(word, key)])

    def told_besides(self, word, key):
        """What a word says of its cases besides that they are there."""
        if word == "unfetched":
            return self.bench.unfetched(key[0], key[1])
        if word == "strange":
            return self.bench.strange(key[0], key[1])
        if word == "double":
            return self.bench.double(key[:2], key[2:])
        if word == "undone":
            return self.bench.undone(key[0], key[1])
        if word == "mixed":
            return self.bench.mixed(key[0], key[1])
        return self.bench.turned(key[:2], key[2:])


def can_meet(kernel, one, other):
    """Whether deeds of two points can cross one another at one array."""
    arrays = [place_of(kernel.statements[point])[0] for point in (one, other)]
    return arrays[0] == arrays[1] and do_cross(kernel, one, other)


def single_keys(kernel, points):
    """The keys of one case, by points and choices, each with its rows."""
    found = []
    for point in points:
        found.extend([((point, choice), rows) for choice, rows in point_cases(kernel, point)])
        check_many(len(found))
    return found


def words_count(kernel, point):
    """What kind of statement reads words at a point: put or add, or let; and how many words."""
    statement = kernel.statements[point]
    kind = "put" if statement[0] in ("put", "add") else statement[0]
    return kind, len(words_read(statement))


def renamed(row, head):
    """The row with bound names for those of blocks and turns that begin with head; with "" for all of these."""
    return (renamed_name(row[0], head), renamed_name(row[1], head), row[2])


def renamed_name(name, head):
    """The bound name for that of a block or a turn that begins with head; other names stay."""
    if name is None or name.startswith("tiles ") or not name.startswith(head):
        return name
    return capital(name)
