"""Stories: what a run of a kernel does, and a run of another kernel told in the words of the first one."""

from lanesmeet.cases import cell_at, stands_there
from lanesmeet.givers import array_names
from lanesmeet.machine import Run
from lanesmeet.maps import check_map, fetch_at, image_at


def run_along(kernel, sizes, order):
    """The run behind an order, and behind it the text order."""
    run = Run(kernel, sizes)
    run.go(order)
    run.finish()
    return run


def story(kernel, sizes, order):
    """The end, the cells and contents that takes and puts met, and what is left in the cells."""
    run = run_along(kernel, sizes, order)
    end, met, left = run.outcome()
    return end, {deed: (cell_at(kernel, run.sizes, deed), met[deed]) for deed in met}, left


def images_in(one, other, chart, sizes, run):
    """The image of each deed of a run; None if one is not there, or two deeds have one."""
    images = {}
    taken = {}
    for pair in run.lists:
        for deed in run.lists[pair]:
            if deed[0] not in chart[0]:
                continue
            own = image_at(other, chart, sizes, deed)
            if own in taken or not stands_there(one, sizes, own):
                return None
            taken[own] = True
            images[deed] = own
    return images


def content_told(content, images):
    """A content with images in the place of instances."""
    last, adds = content
    return None if last is None else images[last], tuple(sorted([images[deed] for deed in adds]))


def doer_in(other, chart, sizes, seen, deed):
    """What does the work of a deed that saw or covered something: of a read its fetch, None if it read another word."""
    if deed[0] not in chart[1]:
        return deed
    found = fetch_at(other, chart, sizes, deed)
    if found is None or seen[deed] != (found[0], ()):
        return None
    return found[1]


def told(one, other, chart, sizes, order):
    """A run of other in the words of one; None if it is no story of one."""
    check_map(one, other, chart)
    run = run_along(other, sizes, order)
    end, seen, cells = run.outcome()
    images = images_in(one, other, chart, sizes, run) if end == "done" else None
    if images is None:
        return None
    met = {}
    for deed in images:
        if deed not in seen:
            continue
        doer = doer_in(other, chart, sizes, seen, deed)
        if doer is None:
            return None
        met[images[deed]] = cell_at(other, sizes, doer), content_told(seen[doer], images)
    names = array_names(one, "far")
    left = {cell: content_told(cells[cell], images) for cell in cells if cell[0] in names}
    return "done", {own: met[own] for own in sorted(met)}, left
