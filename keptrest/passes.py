"""Passes in turn, by their names."""

from keptrest.errors import UnknownName
from keptrest.folding import folded
from keptrest.known import known
from keptrest.placing import placed
from keptrest.sharing import pruned, shared

NAMES = ("folded", "placed", "known", "pruned", "shared")


def passed(program, code, name):
    """What the pass of a name makes of a code."""
    if name == "folded":
        return folded(program, code)
    if name == "placed":
        return placed(program, code)
    if name == "known":
        return known(program, code)
    return pruned(program, code) if name == "pruned" else shared(program, code)


def passed_through(program, code, names):
    """What the passes of some names, in turn, make of a code."""
    for name in names:
        if name not in NAMES:
            raise UnknownName(name)
    for name in names:
        code = passed(program, code, name)
    return code
