"""The pass that leaves out what constants tell: prims of constants, and tests of them."""

from keptrest.unfolding import unfolded, walks_through


def folded(program, code):
    """A code of the same program to whose idle rows no walk comes."""
    return unfolded(program, code, False)


def idle_points(program, code):
    """The points of the idle rows to which some walk comes, ascending."""
    return tuple(sorted(list(walks_through(program, code).idle)))
