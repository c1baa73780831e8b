"""Core terms: which values are core programs, and the places of a term."""

from keptrest.datatext import is_constant_datum
from keptrest.errors import NotThere
from keptrest.prims import is_prim, prim_places
from keptrest.sameness import is_integer
from keptrest.terms import (all_binders, child_tasks, is_counted, own_binders, parts_of, placed_nodes,
                            standing_number, with_parts)

MOST_PARTS = 13
MOST_NODES = 2000
DEEPEST = 200
LENGTHS = {"const": 2, "var": 2, "set": 3, "if": 4, "fn": 4, "let": 4, "seq": 3, "call": 3, "prim": 3}


def is_number(value):
    """True for a number that may stand for a name."""
    return is_integer(value) and value >= 0


def is_row(value):
    """True for a tuple that is not too long for PARAMS and ARGS."""
    return type(value) is tuple and len(value) <= MOST_PARTS


def is_head_of_fn(term):
    """True if PARAMS and REST of a fn are right."""
    if not is_row(term[1]) or any(not is_number(number) for number in term[1]):
        return False
    return term[2] is None or is_number(term[2])


def has_form(term):
    """True if a core term begins here, its parts not looked at."""
    if type(term) is not tuple or len(term) == 0 or type(term[0]) is not str:
        return False
    kind = term[0]
    if LENGTHS.get(kind) != len(term):
        return False
    if kind == "const":
        return is_constant_datum(term[1])
    if kind in ("var", "set", "let"):
        return is_number(term[1])
    if kind == "fn":
        return is_head_of_fn(term)
    if kind == "call":
        return is_row(term[2])
    if kind == "prim":
        return type(term[1]) is str and is_prim(term[1]) and is_row(term[2])
    return True


def binds_again(term, bound):
    """True if a term binds a number twice, or one that has been bound; keeps its numbers."""
    for number in own_binders(term):
        if number in bound:
            return True
        bound[number] = True
    return False


def node_fault(term, bound, scope):
    """The word of the fault of one node; None if it has none."""
    if not has_form(term):
        return "form"
    if binds_again(term, bound):
        return "bound"
    number = standing_number(term)
    if number is not None and number not in scope:
        return "unbound"
    if term[0] == "prim" and len(term[2]) != prim_places(term[1]):
        return "prim"
    return None


def core_fault(value):
    """None for a core program, otherwise the place and the word of its first fault."""
    bound = {}
    scope = {}
    waiting = [("visit", value, ())]
    while waiting:
        word, thing, place = waiting.pop()
        if word == "visit":
            fault = node_fault(thing, bound, scope)
            if fault is not None:
                return (place, fault)
            for own_word, part, k in child_tasks(thing):
                waiting.append((own_word, part, place + (k,)))
        elif word == "bind":
            for number in thing:
                scope[number] = True
        else:
            for number in thing:
                del scope[number]
    return None


def is_core(value):
    """True for a core program."""
    return core_fault(value) is None


def is_program(value):
    """True for a core program that is plainly numbered and not too great."""
    if core_fault(value) is not None or not is_counted(all_binders(value)):
        return False
    return node_count(value) <= MOST_NODES and depth_of(value) <= DEEPEST


def children(term):
    """The children of a core term."""
    return parts_of(term)


def with_children(term, parts):
    """The term with other children, as many as it has."""
    return with_parts(term, parts)


def term_at(term, place):
    """The term at a place."""
    part = term
    for number in place:
        below = parts_of(part)
        if not 0 <= number < len(below):
            raise NotThere(place)
        part = below[number]
    return part


def places_of(term):
    """All places of a term, in writing order."""
    return tuple([place for place, _ in placed_nodes(term)])


def node_count(term):
    """How many nodes a term has."""
    return len(placed_nodes(term))


def depth_of(term):
    """The length of the longest place."""
    return max([len(place) for place, _ in placed_nodes(term)])
