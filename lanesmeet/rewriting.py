"""Kernels with other bodies: statements left out, put in, or put into others."""

from lanesmeet.kernels import Kernel


def with_body(kernel, body):
    """The kernel with another body."""
    return Kernel(kernel.width, kernel.lanes, kernel.blocks, kernel.sizes, kernel.promises, kernel.arrays, body)


def with_blocks(statement, blocks):
    """The statement with other blocks, as many as it has."""
    if not blocks:
        return statement
    return statement[:len(statement) - len(blocks)] + tuple(blocks)


def sides_of(statement):
    """The sides of a statement's blocks, in order."""
    if statement[0] == "if":
        return 0, 1
    return (None,) if statement[0] in ("short", "long") else ()


def end_of(kernel, point):
    """The first point behind a statement and all that stands in it."""
    end = point + 1
    while end < len(kernel.statements) and point in [outer for outer, _ in kernel.arounds[end]]:
        end = end + 1
    return end
