"""Rows of crews: what the lanes of a crew do at one step of one block, counted for all sizes."""

from lanesmeet.cases import STANDS, check_at, points_of
from lanesmeet.crews import check_width, crew_of
from lanesmeet.kernels import check_kernel
from lanesmeet.machine import all_lists
from lanesmeet.standing import Sums, add_zone, stand_names, told_cases


def rows_at(kernel, width, sizes):
    """The rows of a width at these sizes, each with the lanes of its mask."""
    check_kernel(kernel)
    check_width(kernel, width)
    check_at(kernel, sizes)
    lists = all_lists(kernel, sizes)
    found = {}
    for block, lane in lists:
        crew = crew_of(kernel, width, lane)
        for point, _, _, turns in lists[(block, lane)]:
            found.setdefault((block, crew, (point, turns)), []).append(lane)
    return {row: tuple(found[row]) for row in sorted(found)}


def row_zones(kernel, width, points):
    """The zones of all rows of these points, by points, rests, crews and numbers of short turns."""
    found = {}
    for point, choice, zone in told_cases(kernel, points):
        lane, turns, rests, _ = choice
        add_zone(found.setdefault((point, rests, crew_of(kernel, width, lane), turns), []), zone)
    return found


def add_rows(kernel, width, sums, times):
    """Adds the rows of a width to what is to be counted, so many times."""
    zones = row_zones(kernel, width, points_of(kernel, STANDS))
    for key in zones:
        sums.add_lot(key[1], stand_names(kernel, key[0]), zones[key], times)


def issued_sums(kernel, width):
    """For each tuple of rests the told sum of how many rows of a width there are."""
    check_kernel(kernel)
    check_width(kernel, width)
    sums = Sums(kernel)
    add_rows(kernel, width, sums, 1)
    return sums.told_sums()


def idle_sums(kernel, width):
    """For each tuple of rests the told sum of how many places of crews in rows do nothing."""
    check_kernel(kernel)
    check_width(kernel, width)
    sums = Sums(kernel)
    add_rows(kernel, width, sums, width)
    add_rows(kernel, 1, sums, -1)
    return sums.told_sums()
