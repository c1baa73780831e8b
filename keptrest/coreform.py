"""The form of core programs, whatever prims they may have."""

from keptrest.datatext import is_constant_datum
from keptrest.sameness import is_integer
from keptrest.terms import child_tasks, own_binders, standing_number

MOST_PARTS = 13
LENGTHS = {"const": 2, "var": 2, "set": 3, "if": 4, "fn": 4, "let": 4, "seq": 3, "call": 3, "prim": 3}


def is_number(value):
    """True for a number that may stand for a name."""
    return is_integer(value) and value >= 0


def is_row(value):
    """True for a tuple that is not too long for PARAMS and ARGS."""
    return type(value) is tuple and len(value) <= MOST_PARTS


def is_head_of_fn(term):
    """True if PARAMS and REST of a fn are right."""
    if not is_row(term[1]) or any([not is_number(number) for number in term[1]]):
        return False
    return term[2] is None or is_number(term[2])


def has_form(term, wanted):
    """True if a core term begins here, its parts not looked at; wanted tells how many parts a prim wants, or None."""
    if type(term) is not tuple or len(term) == 0 or type(term[0]) is not str:
        return False
    kind = term[0]
    if LENGTHS.get(kind) != len(term):
        return False
    if kind == "const":
        return is_constant_datum(term[1])
    if kind in ("var", "set", "let"):
        return is_number(term[1])
    if kind == "fn":
        return is_head_of_fn(term)
    if kind == "call":
        return is_row(term[2])
    if kind == "prim":
        return type(term[1]) is str and wanted(term[1]) is not None and is_row(term[2])
    return True


def binds_again(term, bound):
    """True if a term binds a number twice, or one that has been bound; keeps its numbers."""
    for number in own_binders(term):
        if number in bound:
            return True
        bound[number] = True
    return False


def node_fault(term, bound, scope, wanted):
    """The word of the fault of one node; None if it has none."""
    if not has_form(term, wanted):
        return "form"
    if binds_again(term, bound):
        return "bound"
    number = standing_number(term)
    if number is not None and number not in scope:
        return "unbound"
    if term[0] == "prim" and len(term[2]) != wanted(term[1]):
        return "prim"
    return None


def first_fault(value, wanted):
    """None for a core program, otherwise the place and the word of its first fault; wanted as above."""
    bound = {}
    scope = {}
    waiting = [("visit", value, ())]
    while waiting:
        word, thing, place = waiting.pop()
        if word == "visit":
            fault = node_fault(thing, bound, scope, wanted)
            if fault is not None:
                return (place, fault)
            for own_word, part, k in child_tasks(thing):
                waiting.append((own_word, part, place + (k,)))
        elif word == "bind":
            for number in thing:
                scope[number] = True
        else:
            for number in thing:
                del scope[number]
    return None
