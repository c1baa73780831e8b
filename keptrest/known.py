"""The pass that makes calls of known functions of what are calls of any ones."""

from keptrest.unfolding import unfolded, walks_through


def known(program, code):
    """A code of the same program whose walks come to no row "call" with a constant or a sure function in front."""
    return unfolded(program, code, True)


def knowable_points(program, code):
    """The points of the rows "call" whose functions some walk tells, ascending."""
    return tuple(sorted(list(walks_through(program, code).knowable)))
