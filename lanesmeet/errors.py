"""All errors of the package: one class for each kind of failure."""


class LaneError(ValueError):
    """What all errors of the package derive from."""


class BadSystem(LaneError):
    """No system of rows."""


class BadName(LaneError):
    """No name that can stand there."""


class BadRow(LaneError):
    """No row of names that are there."""


class BadNames(LaneError):
    """No ascending tuple of names that are there."""


class BadSystems(LaneError):
    def __init__(self, at):
        super().__init__(f"no system at {at!r}")
        self.at = at


class NotBounded(LaneError):
    def __init__(self, name):
        super().__init__(f"{name!r} may be as small as one likes")
        self.name = name


class Ringed(LaneError):
    def __init__(self, ring):
        super().__init__(f"there is a ring: {ring!r}")
        self.ring = ring


class BadSaying(LaneError):
    """No saying."""


class BadPoint(LaneError):
    """No point that can stand there."""


class BadTerms(LaneError):
    """No terms for free names."""


class BadClaims(LaneError):
    """No list of claims."""


class BadSizes(LaneError):
    """No sizes of a kernel or a region."""


class BadPromises(LaneError):
    """No promises about the sizes."""


class BadTold(LaneError):
    def __init__(self, key):
        super().__init__(f"nothing can be told of the rests {key!r}")
        self.key = key


class OtherSizes(LaneError):
    """Regions of unlike sizes or promises."""


class BadRests(LaneError):
    """No tuple of rests."""


class BadWidth(LaneError):
    """No width."""


class BadLanes(LaneError):
    """No pair of lanes."""


class BadBlocks(LaneError):
    """No pair of forms for blocks."""


class BadArrays(LaneError):
    """No arrays of a kernel."""


class BadBody(LaneError):
    def __init__(self, point, word):
        super().__init__(f"the statement {point!r} cannot stand: {word!r}")
        self.point = point
        self.word = word


class BadText(LaneError):
    def __init__(self, row):
        super().__init__(f"the row {row!r} cannot stand")
        self.row = row


class BadKernel(LaneError):
    """No kernel."""


class BadSizesAt(LaneError):
    """No sizes of the kernel."""


class BadBlock(LaneError):
    """No block that is there."""


class BadLane(LaneError):
    """No lane that is there."""


class BadInstance(LaneError):
    """No instance that is there."""


class BadChoice(LaneError):
    """No choice that can stand there."""


class NotAble(LaneError):
    """A lane that can do no deed now."""


class BadOrder(LaneError):
    def __init__(self, at):
        super().__init__(f"the order cannot go on at {at!r}")
        self.at = at


class BadStep(LaneError):
    """No step of the kernel."""


class OtherBlocks(LaneError):
    """Instances of unlike blocks."""


class SameLane(LaneError):
    """Instances of one lane."""


class BadPair(LaneError):
    """No pair case, or no race case."""


class BadRace(LaneError):
    """No race of the kernel."""


class StandsStill(LaneError):
    """A kernel that is parted at these sizes."""


class BadMany(LaneError):
    """No number of gaps."""


class BadLots(LaneError):
    def __init__(self, at):
        super().__init__(f"no lot at {at!r}")
        self.at = at


class BadNumber(LaneError):
    """No number that can stand there."""


class BadBare(LaneError):
    """A kernel that is not bare."""


class BadGaps(LaneError):
    """No gaps that can stand there."""


class Fixed(LaneError):
    def __init__(self, sizes, one, other):
        super().__init__(f"a conflict that no gap parts, at {sizes!r}: {one!r} and {other!r}")
        self.sizes = sizes
        self.one = one
        self.other = other


class NotOne(LaneError):
    """A kernel without one outcome at all sizes."""


class BadArray(LaneError):
    """No array that can stand there."""


class BadAxis(LaneError):
    """No axis of the array."""


class BadSide(LaneError):
    """No side of an axis."""


class BadRegion(LaneError):
    """No region."""


class BadPoints(LaneError):
    """No chosen points."""


class BadWindow(LaneError):
    """No window of the array."""


class BadPoly(LaneError):
    """No poly."""


class BadValues(LaneError):
    """No values for the names."""


class BadEnds(LaneError):
    """No ends of a sum."""


class BadSum(LaneError):
    """No told sum."""


class BadSpan(LaneError):
    """No span of lines."""


class BadLayout(LaneError):
    """No layout of the arrays."""


class BadCell(LaneError):
    """No cell that can stand there."""


class BadBanks(LaneError):
    """No number of banks."""


class BadCounts(LaneError):
    """No counts of a shared array."""


class BadLaying(LaneError):
    """No laying."""


class BadAccess(LaneError):
    """No access of the point."""


class BadLot(LaneError):
    """No lot that can stand there."""


class BadNest(LaneError):
    """No nest."""


class BadLine(LaneError):
    """No line of all deeds."""


class BadCarry(LaneError):
    """No carry of the nest."""


class BadChange(LaneError):
    """No change of the nest."""


class BadHeights(LaneError):
    """No heights of the pieces."""


class NotRising(LaneError):
    """Heights that do not rise."""


class TooDeep(LaneError):
    """What comes is no nest by its limits."""


class BadRoles(LaneError):
    """No roles of loops."""


class BadCopies(LaneError):
    """No copies of arrays."""


class BadPlan(LaneError):
    """No plan."""


class NotFit(LaneError):
    def __init__(self, word):
        super().__init__(f"the plan does not fit: {word!r}")
        self.word = word


class Missed(LaneError):
    def __init__(self, sizes, deed):
        super().__init__(f"a deed is missed at {sizes!r}: {deed!r}")
        self.sizes = sizes
        self.deed = deed


class Torn(LaneError):
    def __init__(self, sizes, deed, other):
        super().__init__(f"deeds are torn at {sizes!r}: {deed!r} and {other!r}")
        self.sizes = sizes
        self.deed = deed
        self.other = other


class BadFellows(LaneError):
    """No fellows."""


class BadMap(LaneError):
    """No map."""


class BadDeed(LaneError):
    """No deed of the kernel."""


class BadWays(LaneError):
    """No ways of loose pairs."""


class NotDone(LaneError):
    """A deed that is not done."""


class Behind(LaneError):
    def __init__(self, other):
        super().__init__(f"a deed stands behind it: {other!r}")
        self.other = other


class TooMany(LaneError):
    def __init__(self, most):
        super().__init__(f"more than {most!r}")
        self.most = most
