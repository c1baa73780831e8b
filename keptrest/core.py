"""Core terms: which values are core programs, and the places of a term."""

from keptrest.coreform import first_fault
from keptrest.errors import NotThere
from keptrest.prims import is_prim, prim_places
from keptrest.terms import all_binders, is_counted, parts_of, placed_nodes, with_parts

MOST_NODES = 2000
DEEPEST = 200


def core_places(name):
    """How many parts a prim of a core program wants; None for what is none."""
    return prim_places(name) if is_prim(name) else None


def core_fault(value):
    """None for a core program, otherwise the place and the word of its first fault."""
    return first_fault(value, core_places)


def is_core(value):
    """True for a core program."""
    return core_fault(value) is None


def is_program(value):
    """True for a core program that is plainly numbered and not too great."""
    if core_fault(value) is not None or not is_counted(all_binders(value)):
        return False
    return node_count(value) <= MOST_NODES and depth_of(value) <= DEEPEST


def children(term):
    """The children of a core term."""
    return parts_of(term)


def with_children(term, parts):
    """The term with other children, as many as it has."""
    return with_parts(term, parts)


def term_at(term, place):
    """The term at a place."""
    part = term
    for number in place:
        below = parts_of(part)
        if not 0 <= number < len(below):
            raise NotThere(place)
        part = below[number]
    return part


def places_of(term):
    """All places of a term, in writing order."""
    return tuple([place for place, _ in placed_nodes(term)])


def node_count(term):
    """How many nodes a term has."""
    return len(placed_nodes(term))


def depth_of(term):
    """The length of the longest place."""
    return max([len(place) for place, _ in placed_nodes(term)])
