"""Lists: their values, and core terms for functions that walk them.

A list function is a loop that calls itself through a boxed name; its numbers count from a base.
"""

from keptrest.errors import UnknownName
from keptrest.kinds import is_pair

NOTHING = ("const", ())
ONE = ("const", 1)


def list_values(store, value):
    """The values of a list; None if the value is no list."""
    values = []
    seen = {}
    while is_pair(store, value) and value[1] not in seen:
        seen[value[1]] = True
        thing = store[value[1]]
        values.append(thing[1])
        value = thing[2]
    return tuple(values) if value == () else None


def put_list(store, values):
    """(VALUE, STORE): a list of values that is put behind a store, its last pair first."""
    made = list(store)
    value = ()
    for item in values[::-1]:
        made.append(("pair", item, value))
        value = ("thing", len(made) - 1)
    return (value, tuple(made))


def prim(name, *parts):
    return ("prim", name, parts)


def call(callee, *parts):
    return ("call", callee, parts)


def first(term):
    return prim("first", term)


def second(term):
    return prim("second", term)


def looped(base, params, body, outer):
    """A term that binds the loop, a fn with PARAMS and a body, and gives the outer function."""
    loop = ("fn", params, None, body)
    return ("let", base, NOTHING, ("seq", ("set", base, loop), outer))


def length_term(base):
    """The loop goes along with the number of pairs so far."""
    loop, row, many, given = [("var", base + k) for k in range(4)]
    again = call(loop, second(row), prim("add", many, ONE))
    body = ("if", prim("is pair", row), again, many)
    outer = ("fn", (base + 3,), None, call(loop, given, ("const", 0)))
    return looped(base, (base + 1, base + 2), body, outer)


def reverse_term(base):
    """The loop goes along with the values so far, the latest one first."""
    loop, row, values, given = [("var", base + k) for k in range(4)]
    again = call(loop, second(row), prim("pair", first(row), values))
    body = ("if", prim("is pair", row), again, values)
    outer = ("fn", (base + 3,), None, call(loop, given, NOTHING))
    return looped(base, (base + 1, base + 2), body, outer)


def append_term(base):
    loop, row, behind = [("var", base + k) for k in range(3)]
    rest = call(loop, second(row), behind)
    body = ("if", prim("is pair", row), prim("pair", first(row), rest), behind)
    return looped(base, (base + 1, base + 2), body, loop)


def map_term(base):
    loop, function, row = [("var", base + k) for k in range(3)]
    rest = call(loop, function, second(row))
    made = prim("pair", call(function, first(row)), rest)
    body = ("if", prim("is pair", row), made, NOTHING)
    return looped(base, (base + 1, base + 2), body, loop)


def fold_term(base):
    loop, function, value, row = [("var", base + k) for k in range(4)]
    again = call(loop, function, call(function, value, first(row)), second(row))
    body = ("if", prim("is pair", row), again, value)
    return looped(base, (base + 1, base + 2, base + 3), body, loop)


def nth_term(base):
    """The row is gone along ahead of the number, so that its end traps ahead of the number's range."""
    loop, row, number = [("var", base + k) for k in range(3)]
    again = call(loop, second(row), prim("less", number, ONE))
    body = ("if", prim("same", number, ("const", 0)), first(row), again)
    return looped(base, (base + 1, base + 2), body, loop)


def member_term(base):
    loop, wanted, row = [("var", base + k) for k in range(3)]
    again = call(loop, wanted, second(row))
    found = ("if", prim("alike", wanted, first(row)), ("const", True), again)
    body = ("if", prim("is pair", row), found, ("const", False))
    return looped(base, (base + 1, base + 2), body, loop)


TERMS = {
    "length": length_term,
    "reverse": reverse_term,
    "append": append_term,
    "map": map_term,
    "fold": fold_term,
    "nth": nth_term,
    "member": member_term,
}


def list_term(name, base):
    """A core term whose value is the list function of this name."""
    if name not in TERMS:
        raise UnknownName(name)
    make = TERMS[name]
    return make(base)
