"""Programs turned into flat ones, that keep nothing and pass what comes next to each function."""

from keptrest.emitter import Emitter, call, var
from keptrest.restterms import keep_term, prelude, wind_term
from keptrest.spots import CALLING_PRIMS, Spots
from keptrest.terms import nodes_of, parts_of, set_numbers

END = ("end",)
TAIL_KINDS = ("const", "var", "call", "if", "let", "seq")
FIRST_KINDS = ("const", "var", "fn", "set", "prim")


def is_atom(term, boxed):
    """True for an atom; boxed is a dict of the boxed numbers."""
    return term[0] == "const" or (term[0] == "var" and term[1] not in boxed)


def tail_parts(term, is_tail):
    """For each child of a term whether it stands in a tail place."""
    kind = term[0]
    many = len(parts_of(term))
    if kind == "fn":
        return [True]
    if kind in ("if", "let", "seq"):
        return [False] + [is_tail] * (many - 1)
    return [False] * many


def has_flat_parts(term, boxed):
    """True if the children of a term that must be of certain kinds are."""
    parts = parts_of(term)
    if term[0] in ("call", "prim"):
        return all([is_atom(part, boxed) for part in parts])
    if term[0] in ("if", "set"):
        return is_atom(parts[0], boxed)
    return term[0] not in ("let", "seq") or parts[0][0] in FIRST_KINDS


def is_flat_node(term, is_tail, boxed):
    """True if a node, in a tail place or in another one, is as nodes of flat programs are."""
    if is_tail:
        if term[0] not in TAIL_KINDS or (term[0] == "var" and term[1] in boxed):
            return False
    elif term[0] == "call" or (term[0] == "prim" and term[1] in CALLING_PRIMS):
        return False
    return has_flat_parts(term, boxed)


def is_flat(program):
    """True for a flat core program."""
    boxed = {number: True for number in set_numbers(program)}
    waiting = [(program, True)]
    while waiting:
        term, is_tail = waiting.pop()
        if not is_flat_node(term, is_tail, boxed):
            return False
        waiting.extend(list(zip(parts_of(term), tail_parts(term, is_tail))))
    return True


class Turner(Emitter):
    """Emits a turned program.

    A rest is ("name", j), END, or a form (KIND, SPOT, ATOMS, REST): the atoms of the children that are done, and
    the rest behind the term.
    """

    def __init__(self, program):
        Emitter.__init__(self, program, dict(DOINGS))
        self.spots = Spots(program)
        self.names = ()

    def naming(self, rest):
        """The number of a rest, and the tasks that name it."""
        if rest[0] == "name":
            return rest[1], []
        j, x = self.new_numbers(2)
        return j, [("head", ("let", j), None), ("head", ("fn", (x,), None), None), ("give", rest, var(x))]


def let_tasks(emitter, term, rest):
    """The tasks of a let of a whole term whose name is given to a rest."""
    m = emitter.new_numbers(1)[0]
    return [("head", ("let", m), None), ("term", term), ("give", rest, var(m))]


def do_turn(emitter, spot, rest):
    """C(T, K)."""
    kind, term = spot.kind, spot.node
    if kind == "const" or (kind == "var" and not emitter.spots.is_boxed(term[1])):
        return [("give", rest, term)]
    if kind == "var":
        return let_tasks(emitter, term, rest)
    if kind == "fn":
        m, j = emitter.new_numbers(2)
        head = ("fn", (j, *term[1]), term[2])
        body = ("turn", spot.below[0], ("name", j))
        return [("head", ("let", m), None), ("head", head, None), body, ("give", rest, var(m))]
    if kind == "if":
        j, tasks = emitter.naming(rest)
        return tasks + [("turn", spot.below[0], ("if", spot, (), ("name", j)))]
    if kind == "prim" and not spot.below:
        return prim_tasks(emitter, spot, (), rest)
    return [("turn", spot.below[0], (kind, spot, (), rest))]


def do_give(emitter, rest, atom):
    """K[a]."""
    if rest == END:
        return [("term", atom)]
    if rest[0] == "name":
        return [("term", call(rest[1], atom))]
    kind, spot, atoms, behind = rest
    if kind in ("call", "prim"):
        return give_argument(emitter, spot, (*atoms, atom), behind)
    if kind == "set":
        return let_tasks(emitter, ("set", spot.node[1], atom), behind)
    if kind == "if":
        sides = [("turn", part, behind) for part in spot.below[1:]]
        return [("head", ("if",), None), ("term", atom), *sides]
    ahead = [("head", ("let", spot.node[1]), None), ("term", atom)] if kind == "let" else []
    return ahead + [("turn", spot.below[1], behind)]


def give_argument(emitter, spot, atoms, rest):
    """One more child of a call or a prim is an atom."""
    if len(atoms) < len(spot.below):
        return [("turn", spot.below[len(atoms)], (spot.kind, spot, atoms, rest))]
    if spot.kind == "prim" and spot.node[1] not in CALLING_PRIMS:
        return prim_tasks(emitter, spot, atoms, rest)
    j, tasks = emitter.naming(rest)
    return tasks + [("call", spot, atoms, j)]


def prim_tasks(emitter, spot, atoms, rest):
    """The tasks of a prim with its atoms that is given to a rest."""
    return let_tasks(emitter, ("sourced", spot.place, ("prim", spot.node[1], atoms)), rest)


def do_call(emitter, spot, atoms, rest):
    """A call, a keep or a wind with its atoms, and with the number of its rest."""
    if spot.kind == "call":
        return [("term", ("sourced", spot.place, ("call", atoms[0], (var(rest), *atoms[1:]))))]
    make = keep_term if spot.node[1] == "keep" else wind_term
    return [("term", make(spot.place, atoms, rest, emitter.names, emitter.new_numbers))]


DOINGS = {"turn": do_turn, "give": do_give, "call": do_call}


def prelude_tasks(turner):
    """The tasks of what is put ahead of a program with keep or wind; gives the turner its three names."""
    turner.names = tuple(turner.new_numbers(3))
    tasks = []
    for number, term in prelude(turner.names, turner.new_numbers):
        tasks.append(("head", ("let", number), None))
        tasks.append(("term", term))
    return tasks


def turned(program):
    """The turned program and its origins."""
    turner = Turner(program)
    tasks = [("turn", turner.spots.nodes[0], END)]
    if any([term[0] == "prim" and term[1] in CALLING_PRIMS for term in nodes_of(program)]):
        tasks = prelude_tasks(turner) + tasks
    turner.do_all(tasks)
    return turner.program_and_origins()


def origin_of(origins, place):
    """The place in the program that belongs to a place; None if there is none."""
    for other, source in origins:
        if other == place:
            return source
    return None
