"""Live runs: which outcomes are still possible, and going back from anywhere."""

from lanesmeet.cases import is_instance
from lanesmeet.errors import Behind, NotDone
from lanesmeet.loose import Order, Weft


class Live:
    """A run that can be taken back deed by deed. ran has the deeds that are done, in their order."""

    def __init__(self, kernel, sizes):
        self.weft = Weft(kernel, sizes)
        self.kernel = kernel
        self.now = self.weft.fresh_run()
        self.ran = []

    def able(self):
        """The pairs (block, lane) that can do a deed now, ascending."""
        return self.now.able()

    def standing(self, block, lane):
        """The instance at which a lane stands, None if it has ended."""
        return self.now.standing(block, lane)

    def content(self, cell):
        """The content of a cell."""
        return self.now.content(cell)

    def done(self):
        """The deeds that are done, in their order."""
        return list(self.ran)

    def order(self):
        """The pairs (block, lane) of the deeds that are done, in their order."""
        return [deed[1:3] for deed in self.ran]

    def do(self, block, lane):
        """Does the next deed of a lane; returns it."""
        deed = self.now.do(block, lane)
        self.ran.append(deed)
        return deed

    def open_pairs(self):
        """The loose pairs neither deed of which is done, ascending."""
        past = {deed: True for deed in self.ran}
        return [(one, other) for one, other in self.weft.loose if one not in past and other not in past]

    def is_settled(self):
        """Whether all ways on have one outcome."""
        return not self.open_pairs()

    def free(self):
        """Those that can do a deed now that leaves all outcomes possible that are so."""
        tied = {deed: True for pair in self.open_pairs() for deed in pair}
        return [pair for pair in self.now.able() if self.now.next_of(pair) not in tied]

    def to_open(self):
        """Goes on in the text order up to ahead of the first deed in an open pair; returns what it did."""
        found = []
        pairs = self.now.able()
        past = {deed: True for deed in self.ran}
        while pairs:
            deed = self.now.next_of(pairs[0])
            if any([mate not in past for mate in self.weft.mates.get(deed, [])]):
                return found
            self.ran.append(self.now.step(pairs[0]))
            past[deed] = True
            found.append(deed)
            pairs = self.now.able()
        return found

    def many_left(self):
        """How many outcomes the orders have that go on from here."""
        return len(Order(self.weft, self.open_pairs()).settlements())

    def check_done(self, deed):
        """Raises NotDone for what is no deed that is done."""
        if not is_instance(self.kernel, deed) or deed not in self.ran:
            raise NotDone("this is no deed that is done")

    def deeds_behind(self, deed):
        """The deeds that stand behind one that is done, ascending."""
        chain = [deed]
        for later in self.ran[self.ran.index(deed) + 1:]:
            mates = self.weft.mates.get(later, [])
            if any([self.weft.is_ahead(one, later) or one in mates for one in chain]):
                chain.append(later)
        return sorted(chain[1:])

    def behind(self, deed):
        """The deeds that stand behind one that is done, ascending."""
        self.check_done(deed)
        return self.deeds_behind(deed)

    def take_back(self, deed):
        """Takes a deed back behind which none stands."""
        self.check_done(deed)
        later = self.deeds_behind(deed)
        if later:
            raise Behind(later[0])
        self.ran = [one for one in self.ran if one != deed]
        self.now = self.weft.fresh_run()
        for one in self.ran:
            self.now.step(one[1:3])

    def settled_so_far(self):
        """For each loose pair of deeds that are done, the one that was done first."""
        places = {deed: at for at, deed in enumerate(self.ran)}
        return [one if places[one] < places[other] else other for one, other in self.weft.loose
                if one in places and other in places]

    def __eq__(self, other):
        if not isinstance(other, Live):
            return False
        if self.kernel != other.kernel or self.weft.sizes != other.weft.sizes:
            return False
        return sorted(self.ran) == sorted(other.ran) and self.settled_so_far() == other.settled_so_far()
