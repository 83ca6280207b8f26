"""Images told for all sizes: what a case of a kernel comes to in the words of a target or a source."""

from lanesmeet.bodies import is_spot_part
from lanesmeet.cases import choice_sight, long_loops, marked_name, point_cases, reached
from lanesmeet.folding import all_of, said_with, some_of
from lanesmeet.guards import form_name, small_number
from lanesmeet.pairs import ahead, stand_for
from lanesmeet.wording import with_terms

BLOCK_NAMES = ("block 0", "block 1")


def spare_rows(kernel):
    """How many rows of sizes and promises each case begins with."""
    return len(kernel.sizes) + len(kernel.promises)


def choices_by_turns(kernel, point):
    """The cases of a point, without rows of sizes, by (lane, short turns, rests). They are kept with the kernel."""
    key = ("by turns", point)
    if key not in kernel.held:
        found = {}
        for choice, rows in point_cases(kernel, point):
            found.setdefault(choice[:3], []).append(rows[spare_rows(kernel):])
        kernel.held[key] = found
    return kernel.held[key]


class Shade:
    """An instance of a kernel told by terms, pairs (name or None, number): for blocks and turns of long loops.

    Its lane and the turns of its short loops are numbers.
    """

    def __init__(self, kernel, point, lane, shorts, rests, terms):
        self.kernel = kernel
        self.point = point
        self.lane = lane
        self.shorts = shorts
        self.rests = rests
        self.terms = terms

    def there(self):
        """The saying that it is there."""
        lots = choices_by_turns(self.kernel, self.point).get((self.lane, self.shorts, self.rests), [])
        return some_of([all_of([said_with(row, self.terms) for row in rows]) for rows in lots])

    def cell(self):
        """What cell it comes to, as reached tells, its tiles being terms."""
        array, offsets, tiles = reached(self.kernel, self.point, (self.lane, self.shorts, self.rests, ()))
        return array, offsets, [moved(term, self.terms) for term in tiles]

    def numbers_told(self):
        """The terms of its blocks and long turns, the outermost first."""
        names = list(BLOCK_NAMES) + ["turn " + name for name in long_loops(self.kernel, self.point)]
        return [self.terms[name] for name in names]

    def is_alike(self, other):
        """Whether what is told by numbers, not by terms, is the same for another one of the same kernel."""
        return (self.point, self.lane, self.shorts) == (other.point, other.lane, other.shorts)


def moved(term, terms):
    """The term with what stands for its name."""
    name, number = terms.get(term[0], (term[0], 0))
    return name, number + term[1]


def shade_ahead(one, other):
    """The saying that the step of one is ahead of that of another one of the same kernel."""
    first = stand_for(one.kernel, one.point, ((), one.shorts), "one ", "")
    second = stand_for(other.kernel, other.point, ((), other.shorts), "other ", "")
    terms = {first.turn_name(name): one.terms["turn " + name] for name in long_loops(one.kernel, one.point)}
    terms.update({second.turn_name(name): other.terms["turn " + name]
                  for name in long_loops(other.kernel, other.point)})
    return with_terms(ahead(first, second), terms)


def own_shade(kernel, point, choice, tail):
    """The instance of a case itself; with a tail the second one of two."""
    names = list(BLOCK_NAMES) + ["turn " + name for name in long_loops(kernel, point)]
    terms = {name: (marked_name(name) if tail else name, 0) for name in names}
    return Shade(kernel, point, choice[0], choice[1], choice[2], terms)


def bound_shade(kernel, point, choice):
    """The instance of a case with bound names, "Turn t" and "Block 0", for its own."""
    names = list(BLOCK_NAMES) + ["turn " + name for name in long_loops(kernel, point)]
    return Shade(kernel, point, choice[0], choice[1], choice[2], {name: (capital(name), 0) for name in names})


def capital(name):
    """The bound name for that of a block or a turn."""
    return name[0].upper() + name[1:]


class Viewer:
    """What an instance, told by a shade, knows: spots come to terms, smalls to numbers."""

    def __init__(self, shade):
        self.width = shade.kernel.width
        self.sight = choice_sight(shade.kernel, shade.point, (shade.lane, shade.shorts, shade.rests, ()))
        self.terms = shade.terms
        self.rests = shade.rests

    def small_told(self, small):
        """The number of a small."""
        return small_number(small, self.sight)

    def spot_told(self, spot):
        """The term for the tile of a spot."""
        form, small = spot
        return moved((form_name(form), form[2] + self.small_told(small) // self.width), self.terms)

    def shade_of(self, kernel, point, blocks, lane, turns):
        """The instance of a kernel that terms for its blocks, and smalls and spots for its lane and turns, tell."""
        terms = dict(zip(BLOCK_NAMES, blocks))
        shorts = []
        for loop, part in zip(kernel.loops[point], turns):
            if is_spot_part(part):
                terms["turn " + loop[1]] = self.spot_told(part)
            else:
                shorts.append(self.small_told(part))
        return Shade(kernel, point, tuple([self.small_told(part) for part in lane]), tuple(shorts), self.rests, terms)


def image_shade(one, chart, shade):
    """The image in one of a deed that a shade tells."""
    point, blocks, lane, turns = chart[0][shade.point]
    viewer = Viewer(shade)
    return viewer.shade_of(one, point, [viewer.spot_told(spot) for spot in blocks], lane, turns)


def source_shade(chart, shade):
    """The put that the source of a read tells, the read being told by a shade."""
    point, lane, turns = chart[1][shade.point]
    return Viewer(shade).shade_of(shade.kernel, point, [shade.terms[name] for name in BLOCK_NAMES], lane, turns)


def with_point(shade, point):
    """The same lane, block and turns, at another point of the same block of text."""
    return Shade(shade.kernel, point, shade.lane, shade.shorts, shade.rests, shade.terms)
