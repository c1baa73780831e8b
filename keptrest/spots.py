"""The nodes of a program, with what is worked out of them once: places, free, boxed and sure numbers.

Sets of numbers are masks here: integers with the bits of the numbers.
"""

from keptrest.terms import own_binders, parts_of, standing_number

CALLING_PRIMS = ("keep", "wind")


class Spot:
    """A node of a program. unbound are its free numbers; it is heavy if a call may be done in it but for its fns."""

    def __init__(self, place, term):
        self.place = place
        self.node = term
        self.kind = term[0]
        self.below = []
        self.unbound = 0
        self.heavy = False
        self.moves = {}
        self.numbers = None


def bits_of(mask):
    """The numbers of the bits of a mask, ascending."""
    found = []
    while mask:
        low = mask & -mask
        found.append(low.bit_length() - 1)
        mask ^= low
    return tuple(found)


def mask_of(numbers):
    """The mask with the bits of some numbers."""
    mask = 0
    for number in numbers:
        mask |= 1 << number
    return mask


def free_numbers_of(spot):
    """The free numbers of a node, ascending."""
    if spot.numbers is None:
        spot.numbers = bits_of(spot.unbound)
    return spot.numbers


def spots_in(program):
    """All nodes of a program in writing order, each with its children."""
    found = []
    waiting = [(None, (), program)]
    while waiting:
        above, place, term = waiting.pop()
        spot = Spot(place, term)
        found.append(spot)
        if above is not None:
            above.below.append(spot)
        parts = parts_of(term)
        for k in range(len(parts) - 1, -1, -1):
            waiting.append((spot, place + (k,), parts[k]))
    return found


def free_mask(spot):
    """The free numbers of a node whose children know theirs."""
    mask = 0
    for part in spot.below:
        mask |= part.unbound
    if spot.kind == "let":
        body = spot.below[1].unbound & ~mask_of(own_binders(spot.node))
        return spot.below[0].unbound | body
    if spot.kind == "fn":
        return mask & ~mask_of(own_binders(spot.node))
    number = standing_number(spot.node)
    return mask if number is None else mask | 1 << number


def is_heavy(spot):
    """True for a node that is heavy, its children knowing whether they are."""
    if spot.kind == "fn":
        return False
    if spot.kind == "call" or (spot.kind == "prim" and spot.node[1] in CALLING_PRIMS):
        return True
    return any([part.heavy for part in spot.below])


class Spots:
    """A program's nodes, in writing order and by their places."""

    def __init__(self, program):
        self.nodes = spots_in(program)
        self.at = {spot.place: spot for spot in self.nodes}
        self.boxed = mask_of([spot.node[1] for spot in self.nodes if spot.kind == "set"])
        for spot in reversed(self.nodes):
            spot.unbound = free_mask(spot)
            spot.heavy = is_heavy(spot)

    def is_boxed(self, number):
        return self.boxed >> number & 1 == 1

    def all_fns(self):
        """The fns in ascending order of their places."""
        return [spot for spot in self.nodes if spot.kind == "fn"]

    def sure_fns(self):
        """The dict from the sure numbers to the fns that they stand for."""
        found = {}
        for spot in self.nodes:
            if spot.kind == "let" and spot.below[0].kind == "fn" and not self.is_boxed(spot.node[1]):
                found[spot.node[1]] = spot.below[0]
        return found
