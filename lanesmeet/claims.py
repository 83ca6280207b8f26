"""Claims, pairs (saying, truth), and what follows from one of them."""

from lanesmeet.differences import turned
from lanesmeet.wording import with_terms


def told_row(claim):
    """The row that the claim tells, None if it tells none."""
    saying, truth = claim
    if saying[0] != "row":
        return None
    return saying[1:] if truth else turned(saying[1:])


def is_parted(claim):
    """Whether one of the parts of the claim holds, one does not know which."""
    saying, truth = claim
    return saying[0] == ("or" if truth else "and")


def is_general(claim):
    """Whether the claim tells something of all numbers."""
    saying, truth = claim
    return saying[0] == ("all" if truth else "some")


def parts_of(claim):
    """The claims of the parts of a saying of several ones."""
    saying, truth = claim
    return [(part, truth) for part in saying[1]]


def made_name(number, at):
    """The name for what the claim of this number says that there is."""
    return f"!{number}.{at}"


def made_names(claim, number):
    """The names that come of opening the claim."""
    saying, _ = claim
    if saying[0] not in ("some", "all"):
        return []
    return [made_name(number, at) for at in range(len(saying[1]))]


def opened(claim, number):
    """The claims that come of opening the claim of this number, None if it cannot be opened."""
    saying, truth = claim
    word = saying[0]
    if word == "not":
        return [(saying[1], not truth)]
    if word == ("and" if truth else "or"):
        return parts_of(claim)
    if word == ("some" if truth else "all"):
        terms = {name: (made, 0) for name, made in zip(saying[1], made_names(claim, number))}
        return [(with_terms(saying[2], terms), truth)]
    return None


def claim_at(claim, terms):
    """What a general claim says of these terms."""
    saying, truth = claim
    return with_terms(saying[2], dict(zip(saying[1], terms))), truth
