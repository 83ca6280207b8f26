"""Local kernels: which take or let gives each word that is read; and two of them held beside one another."""

from lanesmeet.bodies import words_read
from lanesmeet.cases import points_of
from lanesmeet.errors import BadFellows
from lanesmeet.forms import place_of
from lanesmeet.kernels import Kernel


def givers_along(kernel, points, found):
    """Notes the givers of the words that the statements of a block read; whether all have one."""
    given = {}
    for point in points:
        statement = kernel.statements[point]
        words = words_read(statement)
        if any([word not in given for word in words]):
            return False
        found[point] = tuple([given[word] for word in words])
        if statement[0] in ("take", "let"):
            given[statement[1]] = point
    return True


def new_givers(kernel):
    """For each point the points of the givers of the words that it reads; None if the kernel is not local."""
    found = {}
    blocks = [kernel.tops] + [points for inner in kernel.inner for points in inner]
    return found if all([givers_along(kernel, points, found) for points in blocks]) else None


def givers_of(kernel):
    """As new_givers. They are kept with the kernel, so nobody may change them."""
    if "givers" not in kernel.held:
        kernel.held["givers"] = new_givers(kernel)
    return kernel.held["givers"]


def array_names(kernel, sort):
    """The names of the arrays of a sort."""
    return [name for own, name, _ in kernel.arrays if own == sort]


def points_at(kernel, words, sort):
    """The points of statements with one of the words at an array of a sort, ascending."""
    names = array_names(kernel, sort)
    return [point for point in points_of(kernel, words) if place_of(kernel.statements[point])[0] in names]


def reads_of(kernel):
    """The points of all takes at shared arrays, ascending."""
    return points_at(kernel, ("take",), "shared")


def fetch_for(kernel, point):
    """The point of the take at a far array that gives the word of a put; None if something else gives it."""
    giver = givers_of(kernel)[point][0]
    return giver if giver in points_at(kernel, ("take",), "far") else None


def fit_together(one, other):
    """Whether two kernels are fellows."""
    if givers_of(one) is None or givers_of(other) is None:
        return False
    if one.width != other.width or one.sizes != other.sizes or one.promises != other.promises:
        return False
    if array_names(one, "shared") or points_at(other, ("add",), "shared"):
        return False
    return all([array in other.arrays for array in one.arrays])


def are_both_fellows(one, other):
    """Whether any two values are fellows."""
    return isinstance(one, Kernel) and isinstance(other, Kernel) and fit_together(one, other)


def check_fellows(one, other):
    """Raises BadFellows for what are no fellows."""
    if not are_both_fellows(one, other):
        raise BadFellows("these are no fellows")
