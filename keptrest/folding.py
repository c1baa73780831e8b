"""The pass that leaves out what constants tell: prims of constants, and tests of them."""

from keptrest.unfolding import unfolded, visits_of

IDLE_ROWS = ("test", "prim")


def folded(program, code):
    """A code of the same program to whose idle rows no walk comes."""
    return unfolded(program, code, False)


def idle_points(program, code):
    """The points of the idle rows to which some walk comes, ascending."""
    rows = code[0]
    found = {point: True for point, told in visits_of(program, code) if told is None and rows[point][0] in IDLE_ROWS}
    return tuple(sorted(list(found)))
