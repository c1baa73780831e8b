"""The entries of the fns of a program, but for their points."""

from keptrest.spots import free_numbers_of


def pick_of(number, params, own):
    """Where a number of a fn's body comes from: params has its parameters and rest, own its captured numbers."""
    if number in params:
        return ("handed", params.index(number))
    return ("own", own.index(number))


def entry_of(spot, spots):
    """(q, k, REST, BOXED, PICKS) of the fn at a node."""
    _, params, rest, _ = spot.node
    names = params if rest is None else (*params, rest)
    boxed = [spots.is_boxed(number) for number in names]
    if rest is None:
        boxed.append(False)
    own = free_numbers_of(spot)
    picks = [pick_of(number, names, own) for number in free_numbers_of(spot.below[0])]
    return (spot.place, len(params), rest is not None, tuple(boxed), tuple(picks))
