"""The prims: what they want, and what they do with values and a store."""

from keptrest.alike import alike
from keptrest.kinds import are_one, kind_of

BELOW_AMOUNT = 10 ** 30
WANTED = {
    "add": ("number", "number"),
    "less": ("number", "number"),
    "times": ("number", "number"),
    "over": ("number", "number"),
    "rest": ("number", "number"),
    "below": ("number", "number"),
    "is number": ("value",),
    "is truth": ("value",),
    "is nothing": ("value",),
    "is name": ("value",),
    "is pair": ("value",),
    "is function": ("value",),
    "same": ("value", "value"),
    "alike": ("value", "value"),
    "pair": ("value", "value"),
    "first": ("pair",),
    "second": ("pair",),
    "put first": ("pair", "value"),
    "put second": ("pair", "value"),
    "show": ("value",),
    "ask": (),
    "more": (),
    "keep": ("value",),
    "wind": ("value", "value", "value"),
    "give up": ("value",),
}


def is_prim(name):
    """True for the name of a prim."""
    return name in WANTED


def prim_places(name):
    """How many values a prim is passed."""
    return len(WANTED[name])


def in_range(number):
    """What a prim gives that may leave the range of numbers."""
    return ("give", number) if abs(number) < BELOW_AMOUNT else ("trap", "range")


def do_add(values, _):
    return in_range(values[0] + values[1])


def do_less(values, _):
    return in_range(values[0] - values[1])


def do_times(values, _):
    return in_range(values[0] * values[1])


def do_over(values, _):
    return ("give", values[0] // values[1]) if values[1] != 0 else ("trap", "zero")


def do_rest(values, _):
    one, other = values
    return ("give", one - one // other * other) if other != 0 else ("trap", "zero")


def do_below(values, _):
    return ("give", values[0] < values[1])


def do_same(values, _):
    return ("give", are_one(values[0], values[1]))


def do_alike(values, store):
    return ("give", alike(store, values[0], values[1]))


def do_pair(values, _):
    return ("make", ("pair", values[0], values[1]))


def do_first(values, store):
    return ("give", store[values[0][1]][1])


def do_second(values, store):
    return ("give", store[values[0][1]][2])


def do_put_first(values, store):
    address = values[0][1]
    return ("put", address, ("pair", values[1], store[address][2]))


def do_put_second(values, store):
    address = values[0][1]
    return ("put", address, ("pair", store[address][1], values[1]))


def do_give_up(_, store):
    return ("trap", "given up")


DOINGS = {
    "add": do_add,
    "less": do_less,
    "times": do_times,
    "over": do_over,
    "rest": do_rest,
    "below": do_below,
    "same": do_same,
    "alike": do_alike,
    "pair": do_pair,
    "first": do_first,
    "second": do_second,
    "put first": do_put_first,
    "put second": do_put_second,
    "give up": do_give_up,
}


def has_wrong_kind(name, values, store):
    """True if some value is not of the kind that the prim wants there."""
    for wanted, value in zip(WANTED[name], values):
        if wanted != "value" and kind_of(store, value) != wanted:
            return True
    return False


def do_prim(name, values, store):
    """What a prim gives, makes or puts, or its trap."""
    if has_wrong_kind(name, values, store):
        return ("trap", "kind")
    if name.startswith("is "):
        return ("give", kind_of(store, values[0]) == name[3:])
    doing = DOINGS[name]
    return doing(values, store)
