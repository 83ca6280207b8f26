"""Plans for nests by a seed, and drawn orders."""

from lanesmeet.gaps import all_gaps
from lanesmeet.machine import Run
from lanesmeet.plans import Plan, unfit

LONE = ("none", None, 1)


def drawn_order(kernel, sizes, r):
    """A whole order: drawn, or always the last one that is able."""
    run = Run(kernel, sizes)
    found = []
    last = r.random() < 0.3
    able = run.able()
    while able:
        pair = able[-1] if last else r.choice(able)
        run.do(*pair)
        found.append(pair)
        able = run.able()
    return found


def drawn_plan(nest, r, widths=(1, 2, 2, 2, 2, 3, 4)):
    width = r.choice(widths)
    counts = [count for count in range(1, width + 1) if width % count == 0]
    roles = {}
    for point, statement in enumerate(nest.statements):
        if statement[0] == "long":
            roles[point] = r.choice((("turn",), ("lane", 0), ("lane", 1), ("block", 0), ("block", 1), ("lane", 1)))
    blocks = []
    for axis in (0, 1):
        size = r.choice(nest.sizes)[0]
        many = r.choice((("tiles", size, 1), ("tiles", size, 1), ("tiles", size, 0), ("none", None, 2), LONE))
        blocks.append(many if ("block", axis) in roles.values() and r.random() < 0.9 else LONE)
    share = r.choice((0, 0.3, 1))
    gaps = tuple(gap for gap in all_gaps(nest) if r.random() < share)
    longs = [point for point in roles if roles[point][0] != "block"]
    copies = [(array, r.choice([None] + longs)) for _, array, _ in nest.arrays if r.random() < 0.5]
    return Plan(width, (r.choice(counts), r.choice(counts)), tuple(blocks), roles, gaps, tuple(sorted(
        copies, key=lambda pair: pair[0])))


def fitting_plan(nest, r, widths=(1, 2, 2, 2, 2, 3, 4)):
    """A plan that fits, None if none is soon found."""
    for _ in range(60):
        plan = drawn_plan(nest, r, widths)
        if unfit(nest, plan) is None:
            return plan
    return None
