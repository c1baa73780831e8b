"""The pass that makes calls of known functions of what are calls of any ones."""

from keptrest.unfolding import unfolded, visits_of


def known(program, code):
    """A code of the same program whose walks come to no row "call" with a constant or a sure function in front."""
    return unfolded(program, code, True)


def is_knowable(row, told):
    """True for a row "call" that turned out to be another end in a walk."""
    return row[0] == "call" and told[1][0] != "call"


def knowable_points(program, code):
    """The points of the rows "call" whose functions some walk tells, ascending."""
    rows = code[0]
    found = {point: True for point, told in visits_of(program, code) if is_knowable(rows[point], told)}
    return tuple(sorted(list(found)))
