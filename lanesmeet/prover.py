"""The search for a tree that shows that claims cannot all be kept, or for a point at which they are.

One goes on from a point that keeps all rows that are told so far: only a claim that does not hold
there is looked at next, so what has nothing to do with the question is left alone.
"""

from lanesmeet.claims import claim_at, is_general, is_parted, made_name, made_names, opened, parts_of, told_row
from lanesmeet.cuts import truth_at, zones_of
from lanesmeet.ways import weighed
from lanesmeet.wording import free_in


class Node:
    """A tree that is not yet written: steps, the ring or part behind them, and the numbers of the claims it uses."""

    def __init__(self, used, steps, leaf):
        self.used = used
        self.steps = steps
        self.leaf = leaf


class Step:
    """A claim that is opened (terms None), or a general claim at terms, and the numbers of what comes of it."""

    def __init__(self, number, terms, made, come):
        self.number = number
        self.terms = terms
        self.made = made
        self.come = come


class Branch:
    """The rows that are told, the numbers of their claims, and the claims that wait; numbers keep most of the rows."""

    def __init__(self, rows, sources, waiting, numbers):
        self.rows = rows
        self.sources = sources
        self.waiting = waiting
        self.numbers = numbers


class Prover:
    """The book of all claims that came up, by numbers that they keep wherever they stand in a tree."""

    def __init__(self, claims):
        self.book = list(claims)
        self.falls = {}

    def entered(self, claims):
        """The numbers of further claims."""
        first = len(self.book)
        self.book.extend(claims)
        return list(range(first, len(self.book)))

    def grown(self, branch, numbers, spent):
        """The branch with the claims of these numbers, the spent one being done with."""
        rows = list(branch.rows)
        sources = list(branch.sources)
        waiting = [number for number in branch.waiting if number != spent]
        for number in numbers:
            row = told_row(self.book[number])
            if row is None:
                waiting.append(number)
            else:
                rows.append(row)
                sources.append(number)
        return Branch(rows, sources, waiting, branch.numbers)

    def settled(self, branch):
        """A pair: a node, or None and a point at which all claims hold."""
        steps = []
        while True:
            values, ring = weighed(branch.rows, branch.numbers)
            if ring is not None:
                used = {branch.sources[at]: True for at in ring}
                return wrapped(steps, Node(used, [], ("ring", [branch.rows[at] for at in ring]))), None
            branch.numbers = values
            step = self.next_step(branch)
            if step is not None:
                steps.append(step)
                branch = self.grown(branch, step.come, step.number if step.terms is None else None)
                continue
            number = self.to_part(branch)
            if number is None:
                step = self.general_step(branch)
                if step is None:
                    return None, values
                steps.append(step)
                branch = self.grown(branch, step.come, None)
                continue
            node, point = self.parted(branch, number)
            return (None, point) if node is None else (wrapped(steps, node), None)

    def next_step(self, branch):
        """The step that opens a claim, None if none can be opened."""
        for number in branch.waiting:
            claims = opened(self.book[number], number)
            if claims is not None:
                return Step(number, None, made_names(self.book[number], number), self.entered(claims))
        return None

    def to_part(self, branch):
        """The claim with the fewest parts of those that do not hold at the point, None if all hold."""
        found = None
        fewest = 0
        for number in branch.waiting:
            saying, truth = self.book[number]
            if not is_parted(self.book[number]) or found is not None and len(saying[1]) >= fewest:
                continue
            if truth_at(saying, branch.numbers) != truth:
                found = number
                fewest = len(saying[1])
        return found

    def general_step(self, branch):
        """The step that asks a general claim at terms at which it does not hold, None if all hold.

        Those that came last go first: what a claim says of terms is looked at before it is asked again.
        """
        for number in reversed(branch.waiting):
            claim = self.book[number]
            if is_general(claim):
                terms = self.terms_against(number, branch.numbers)
                if terms is not None:
                    return Step(number, terms, [], self.entered([claim_at(claim, terms)]))
        return None

    def terms_against(self, number, values):
        """Terms at which the general claim does not hold at these values, None if it does."""
        saying, truth = self.book[number]
        names = free_in(saying)
        if number not in self.falls:
            inner = ("not", saying[2]) if truth else saying[2]
            self.falls[number] = zones_of(inner, names + list(saying[1]))
        for zone in self.falls[number]:
            terms = terms_in(zone, names, values)
            if terms is not None:
                return terms
        return None

    def parted(self, branch, number):
        """As settled, the claim of this number being parted."""
        children = []
        used = {number: True}
        claims = parts_of(self.book[number])
        for claim in claims:
            come = self.entered([claim])
            node, point = self.settled(self.grown(branch, come, number))
            if node is None:
                return None, point
            if come[0] not in node.used:
                return node, None
            children.append((come[0], node))
            used.update({other: True for other in node.used if other != come[0]})
        return Node(used, [], ("part", number, children)), None


def wrapped(steps, node):
    """The node behind those of the steps that it uses."""
    used = {number: True for number in node.used}
    wanted = []
    for step in reversed(steps):
        if any([number in used for number in step.come]):
            used = {number: True for number in used if number not in step.come}
            used[step.number] = True
            wanted.append(step)
    return Node(used, wanted[::-1] + node.steps, node.leaf)


def terms_in(zone, names, values):
    """Terms for the places behind those of the names that make, at the values, a point of the zone; None if none do.

    Each place takes its greatest bound from below, so there are only so many terms for any values.
    """
    terms = [(None, 0)] + [(name, 0) for name in names]
    numbers = [0] + [values.get(name, 0) for name in names]
    for i, number in enumerate(numbers):
        for j, other in enumerate(numbers):
            if zone[i][j] is not None and number - other > zone[i][j]:
                return None
    first = len(names) + 1
    for place in range(first, len(zone)):
        at, more = bound_for(zone, numbers, place)
        name, number = terms[at]
        numbers.append(numbers[at] + more)
        terms.append((name, number + more))
    return tuple(terms[first:])


def bound_for(zone, numbers, place):
    """A pair (place, number): the greatest bound of the place from below, if it has none the least one from above.

    Of equal ones a name is taken ahead of 0: it tells more points at once.
    """
    lows = [(number - zone[i][place], i) for i, number in enumerate(numbers) if zone[i][place] is not None]
    if lows:
        _, at = max(lows)
        return at, -zone[at][place]
    highs = [(number + zone[place][i], -i) for i, number in enumerate(numbers) if zone[place][i] is not None]
    if highs:
        _, at = min(highs)
        return -at, zone[place][-at]
    return 0, 0


def written(node, spots, names, count):
    """The tree of the node in a list of count claims; spots and names tell the indexes and names in that list."""
    spots = dict(spots)
    names = dict(names)
    heads = []
    for step in node.steps:
        spot = spots[step.number]
        if step.terms is None:
            heads.append(("open", spot))
        else:
            heads.append(("at", spot, tuple([(names.get(name, name), number) for name, number in step.terms])))
        for at, made in enumerate(step.made):
            names[made] = made_name(spot, at)
        for number in step.come:
            spots[number] = count
            count = count + 1
    tree = written_end(node.leaf, spots, names, count)
    for head in reversed(heads):
        tree = head + (tree,)
    return tree


def written_end(end, spots, names, count):
    """The ring, or the part with its trees, as written tells."""
    if end[0] == "ring":
        return "ring", tuple([(names.get(a, a), names.get(b, b), c) for a, b, c in end[1]])
    trees = []
    for come, child in end[2]:
        inner = dict(spots)
        inner[come] = count
        trees.append(written(child, inner, names, count + 1))
    return "part", spots[end[1]], tuple(trees)


def tree_for(claims):
    """A tree for the claims, None if there is a point at which all of them hold."""
    prover = Prover(claims)
    numbers = list(range(len(claims)))
    node, _ = prover.settled(prover.grown(Branch([], [], [], {}), numbers, None))
    if node is None:
        return None
    return written(node, {number: number for number in numbers}, {}, len(claims))
