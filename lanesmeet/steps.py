"""Races in step: those that are left if all lanes of a crew go on step by step."""

from lanesmeet.cases import MARK, long_loops, point_cases
from lanesmeet.crews import all_widths, check_width, crew_of
from lanesmeet.kernels import check_kernel
from lanesmeet.races import all_race_cases, are_papers_of, papers_of, races_at, region_of


def check_both(kernel, width):
    """Raises BadKernel or BadWidth for what cannot stand there."""
    check_kernel(kernel)
    check_width(kernel, width)


def is_led(kernel, width, one, other):
    """Whether the two instances are of one block and crew, and of unlike steps."""
    if one[1] != other[1] or crew_of(kernel, width, one[2]) != crew_of(kernel, width, other[2]):
        return False
    return one[0] != other[0] or one[3] != other[3]


def races_in_step(kernel, width, sizes):
    """The pairs of instances of all races at these sizes that no order in step leads, ascending."""
    check_both(kernel, width)
    return [pair for pair in races_at(kernel, sizes) if not is_led(kernel, width, pair[0], pair[1])]


def choices_of(kernel, case):
    """The two choices of a race case."""
    one, other, _ = case
    return point_cases(kernel, one[0])[one[1]][0], point_cases(kernel, other[0])[other[1]][0]


def is_in_crew(kernel, width, case):
    """Whether a race case is one of two lanes of one crew."""
    first, second = choices_of(kernel, case)
    return case[2] == "same" and crew_of(kernel, width, first[0]) == crew_of(kernel, width, second[0])


def step_rows(kernel, point):
    """The rows that say that the turns of the long loops around a point are equal for both instances."""
    rows = []
    for name in long_loops(kernel, point):
        turn = "turn " + name
        rows.append((turn, turn + MARK, 0))
        rows.append((turn + MARK, turn, 0))
    return tuple(rows)


def asked_cases(kernel, width):
    """All step cases, each with the rows that are asked for beside those of the race case."""
    found = []
    for case in all_race_cases(kernel):
        if not is_in_crew(kernel, width, case):
            found.append((case, ()))
            continue
        first, second = choices_of(kernel, case)
        if case[0][0] == case[1][0] and first[1] == second[1]:
            found.append((case, step_rows(kernel, case[0][0])))
    return found


def step_cases(kernel, width):
    """The race cases whose instances are not surely led, in the order of race cases."""
    check_both(kernel, width)
    return [case for case, _ in asked_cases(kernel, width)]


def step_region(kernel, width):
    """The region of the sizes with a race in step."""
    key = ("step region", width)
    if key not in kernel.held:
        kernel.held[key] = region_of(kernel, asked_cases(kernel, width))
    return kernel.held[key]


def race_in_step(kernel, width):
    """The first race in step at the least sizes that have one, None if there is none."""
    check_both(kernel, width)
    sizes = step_region(kernel, width).least()
    if sizes is None:
        return None
    one, other = races_in_step(kernel, width, sizes)[0]
    return sizes, one, other


def step_papers(kernel, width):
    """For each step case a tree that shows that its saying holds nowhere; None if there is a race in step."""
    check_both(kernel, width)
    if step_region(kernel, width):
        return None
    return papers_of(kernel, asked_cases(kernel, width))


def are_step_papers(kernel, width, thing):
    """Whether thing has for each step case a tree that shows that its saying holds nowhere."""
    check_both(kernel, width)
    return are_papers_of(kernel, asked_cases(kernel, width), thing)


def right_widths(kernel):
    """The widths with no race in step at any size, ascending."""
    check_kernel(kernel)
    found = []
    for width in all_widths(kernel):
        # What a right width divides is right, too: an order in step of it is in step of that width.
        if any([width % right == 0 for right in found]) or not step_region(kernel, width):
            found.append(width)
    return found
