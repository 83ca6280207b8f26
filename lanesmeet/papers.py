"""Papers: trees that show by adding that claims cannot all be kept."""

from lanesmeet.claims import claim_at, is_general, is_parted, opened, parts_of, told_row
from lanesmeet.differences import is_row
from lanesmeet.errors import BadClaims
from lanesmeet.plain import is_between, is_listing, is_number, is_tuple_of
from lanesmeet.prover import tree_for
from lanesmeet.sayings import check_point, check_saying, is_saying
from lanesmeet.wording import names_in, said


def check_claims(claims):
    """Raises BadClaims for what is no list of pairs of a saying and a bool."""
    if not is_listing(claims):
        raise BadClaims("this is no list")
    for claim in claims:
        if not is_tuple_of(claim, 2) or not is_saying(claim[0]) or not isinstance(claim[1], bool):
            raise BadClaims("this is no pair of a saying and a bool")


def is_tree(claims, thing):
    """Whether thing is a tree for the claims."""
    check_claims(claims)
    return is_tree_for(claims, thing)


def is_tree_for(claims, thing):
    """Whether thing is a tree for what are surely claims."""
    # Trees may be deep, so the branches that are still to be judged stand in a list.
    branches = [(list(claims), thing)]
    while branches:
        told, tree = branches.pop()
        later = branches_below(told, tree)
        if later is None:
            return False
        branches.extend(later)
    return True


def branches_below(told, tree):
    """The lists of claims with the trees that are wanted for them, None if this is no tree."""
    if not isinstance(tree, tuple) or not tree:
        return None
    if tree[0] == "ring":
        return [] if is_told_ring(told, tree) else None
    if tree[0] == "split":
        return split_below(told, tree)
    if tree[0] not in ("open", "part", "at") or len(tree) < 3 or not is_between(tree[1], 0, len(told) - 1):
        return None
    if tree[0] == "open":
        return open_below(told, tree)
    if tree[0] == "part":
        return part_below(told, tree)
    return at_below(told, tree)


def is_told_ring(told, tree):
    """Whether the tree is a ring of rows that claims tell."""
    if len(tree) != 2 or not isinstance(tree[1], tuple) or not tree[1]:
        return False
    rows = tree[1]
    known = {told_row(claim): True for claim in told}
    for row in rows:
        if not is_row(row) or row not in known:
            return False
    for at, row in enumerate(rows):
        if rows[at - 1][1] != row[0]:
            return False
    return sum([row[2] for row in rows]) < 0


def open_below(told, tree):
    """As branches_below, of a claim that is opened."""
    if len(tree) != 3:
        return None
    claims = opened(told[tree[1]], tree[1])
    return None if claims is None else [(told + claims, tree[2])]


def part_below(told, tree):
    """As branches_below, of a claim that is parted."""
    claim = told[tree[1]]
    if len(tree) != 3 or not is_parted(claim) or not is_tuple_of(tree[2], len(claim[0][1])):
        return None
    return [(told + [part], inner) for part, inner in zip(parts_of(claim), tree[2])]


def at_below(told, tree):
    """As branches_below, of a general claim at terms."""
    claim = told[tree[1]]
    if len(tree) != 4 or not is_general(claim) or not is_tuple_of(tree[2], len(claim[0][1])):
        return None
    names = names_told(told)
    for term in tree[2]:
        if not is_tuple_of(term, 2) or not is_spot(term[0], names) or not is_number(term[1]):
            return None
    return [(told + [claim_at(claim, tree[2])], tree[3])]


def split_below(told, tree):
    """As branches_below, of a row that is kept or not."""
    if len(tree) != 4 or not is_row(tree[1]):
        return None
    names = names_told(told)
    if not is_spot(tree[1][0], names) or not is_spot(tree[1][1], names):
        return None
    row = said(tree[1])
    return [(told + [(row, True)], tree[2]), (told + [(row, False)], tree[3])]


def names_told(told):
    """The names that are free or made in the claims."""
    return {name: True for saying, _ in told for name in names_in(saying)}


def is_spot(thing, names):
    """Whether thing is None or one of the names."""
    return thing is None or isinstance(thing, str) and thing in names


def nowhere(saying):
    """A tree that shows that the saying holds nowhere, None if it holds somewhere."""
    check_saying(saying)
    return tree_for([(saying, True)])


def within_paper(one, other):
    """A tree that shows that the other saying holds wherever the one does, None if it does not."""
    check_saying(one)
    check_saying(other)
    return tree_for([(one, True), (other, False)])


def point_paper(saying, point):
    """A tree that shows that the saying holds at the point, None if it does not."""
    check_saying(saying)
    check_point(saying, point)
    claims = [(saying, False)]
    for name in sorted(point):
        claims.append((("row", name, None, point[name]), True))
        claims.append((("row", None, name, -point[name]), True))
    return tree_for(claims)
