"""The machine said again in the plainest way, and all orders of small runs."""

from lanesmeet.meaning import cell_of, instances

DEEDS = ("take", "put", "add")


class Plain:
    """A run of which nothing is kept but the lists and how far each lane is."""

    def __init__(self, kernel, sizes):
        self.kernel = kernel
        self.sizes = sizes
        self.words = [statement[0] for statement in kernel.statements]
        lanes = [(y, x) for y in range(kernel.lanes[0]) for x in range(kernel.lanes[1])]
        counts = [form[2] + (sizes[form[1]][0] if form[0] == "tiles" else 0) for form in kernel.blocks]
        self.blocks = [(y, x) for y in range(counts[0]) for x in range(counts[1])]
        self.lanes = lanes
        self.lists = {(block, lane): instances(kernel, sizes, block, lane) for block in self.blocks for lane in lanes}
        self.cells = {}
        for done in self.lists.values():
            for one in done:
                if self.words[one[0]] in DEEDS:
                    self.cells[one] = cell_of(kernel, sizes, one)

    def start(self):
        return self.passed({pair: 0 for pair in self.lists})

    def passed(self, spots):
        """The spots behind all meetings at which all lanes of a block wait."""
        spots = dict(spots)
        for block in self.blocks:
            while True:
                heads = [self.head(spots, (block, lane)) for lane in self.lanes]
                meets = {(one[0], one[3]) for one in heads if one is not None and self.words[one[0]] == "meet"}
                if None in heads or len(meets) != 1 or any(self.words[one[0]] != "meet" for one in heads):
                    break
                for lane in self.lanes:
                    spots[(block, lane)] += 1
        return spots

    def head(self, spots, pair):
        done = self.lists[pair]
        return done[spots[pair]] if spots[pair] < len(done) else None

    def able(self, spots):
        return [pair for pair in sorted(self.lists)
                if self.head(spots, pair) is not None and self.words[self.head(spots, pair)[0]] in DEEDS]

    def moved(self, spots, pair):
        spots = dict(spots)
        spots[pair] += 1
        return self.passed(spots)

    def waiting(self, spots):
        return [pair for pair in sorted(self.lists) if self.head(spots, pair) is not None]

    def orders(self, most):
        """All orders to the end, as lists of pairs; None if there are more than most."""
        found = []

        def go(spots, order):
            able = self.able(spots)
            if len(found) > most:
                return
            if not able:
                found.append(order)
            for pair in able:
                go(self.moved(spots, pair), order + [pair])

        go(self.start(), [])
        return None if len(found) > most else found

    def deeds_of(self, order):
        spots = self.start()
        found = []
        for pair in order:
            found.append(self.head(spots, pair))
            spots = self.moved(spots, pair)
        return found

    def outcome(self, order):
        """The outcome of a whole order."""
        spots = self.start()
        contents = {}
        met = {}
        for pair in order:
            one = self.head(spots, pair)
            word = self.words[one[0]]
            last, adds = contents.get(self.cells[one], (None, ()))
            if word in ("take", "put"):
                met[one] = (last, adds)
            if word == "put":
                contents[self.cells[one]] = (one, ())
            if word == "add":
                contents[self.cells[one]] = (last, tuple(sorted(adds + (one,))))
            spots = self.moved(spots, pair)
        waiting = self.waiting(spots)
        end = ("still", waiting) if waiting else "done"
        return end, met, contents

    def cross(self, one, other):
        words = (self.words[one[0]], self.words[other[0]])
        return self.cells[one] == self.cells[other] and ("put" in words or set(words) == {"add", "take"})
