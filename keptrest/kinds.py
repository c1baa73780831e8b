"""The kinds of values."""

from keptrest.sameness import is_integer, same_data


def is_thing(value):
    """True for a value that has an address."""
    return type(value) is tuple and len(value) == 2 and value[0] == "thing"


def is_pair(store, value):
    """True for a value whose thing is a pair."""
    return is_thing(value) and store[value[1]][0] == "pair"


def kind_of(store, value):
    """The kind of a value."""
    if type(value) is bool:
        return "truth"
    if is_integer(value):
        return "number"
    if value == ():
        return "nothing"
    if value[0] == "name":
        return "name"
    return "pair" if is_pair(store, value) else "function"


def are_one(value, other):
    """True if two constants are the same, or two things have one address."""
    return same_data(value, other)
