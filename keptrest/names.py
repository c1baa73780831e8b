"""The numbers of core terms that stand for names."""

from keptrest.errors import NotThere
from keptrest.sameness import same_data
from keptrest.terms import (all_binders, binding_child, free_in, is_counted, nodes_of, own_binders, parts_of,
                            placed_nodes, set_numbers, standing_number, with_parts)


def free_numbers(term):
    """The free numbers of a term, ascending."""
    return free_in(term)


def binders_of(term):
    """The binders of a term, in writing order, as often as they are bound."""
    return all_binders(term)


def boxed_numbers(core):
    """The boxed numbers of a core term, ascending."""
    return set_numbers(core)


def binder_place(core, number):
    """The place of the fn or let that binds a number; None if none does."""
    for place, term in placed_nodes(core):
        if number in own_binders(term):
            return place
    return None


def uses_of(core, number):
    """The places of the vars and sets in which a number stands."""
    return tuple([place for place, term in placed_nodes(core) if standing_number(term) == number])


def scope_at(core, place):
    """The numbers that are bound at a place by nodes around it, ascending."""
    bound = {}
    term = core
    for child in place:
        below = parts_of(term)
        if not 0 <= child < len(below):
            raise NotThere(place)
        if child == binding_child(term):
            for number in own_binders(term):
                bound[number] = True
        term = below[child]
    return tuple(sorted(list(bound)))


def with_numbers(term, moved):
    """A node with its own numbers led by a dict; a number that is not in it stays."""
    kind = term[0]
    if kind in ("var", "set", "let"):
        return (kind, moved.get(term[1], term[1]), *term[2:])
    if kind == "fn":
        params = tuple([moved.get(number, number) for number in term[1]])
        last = None if term[2] is None else moved.get(term[2], term[2])
        return (kind, params, last, term[3])
    return term


def renumbered(core):
    """The core program with its binders 0, 1, 2, .. in writing order."""
    moved = {number: k for k, number in enumerate(all_binders(core))}
    made = []
    for term in reversed(nodes_of(core)):
        parts = [made.pop() for _ in parts_of(term)]
        made.append(with_parts(with_numbers(term, moved), parts))
    return made[0]


def is_plain(core):
    """True if a core program is plainly numbered."""
    return is_counted(all_binders(core))


def same_core(first, second):
    """True if two core programs are the same up to numbers."""
    return same_data(renumbered(first), renumbered(second))
