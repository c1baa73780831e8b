"""What holds what in a standing: what would be reached no more without a root or a thing."""

from keptrest.errors import NotReached, OutOfRange
from keptrest.frames import frame_values, thing_values
from keptrest.images import image_bill, image_of
from keptrest.kinds import is_thing
from keptrest.memory import control_values


def addresses_in(values):
    """The addresses in some values."""
    return [value[1] for value in values if is_thing(value)]


def values_of_roots(standing):
    """The dict from the roots of a standing to their values."""
    control, kont, winds = standing[:3]
    roots = {("control",): control_values(control), ("winds",): [winds]}
    for k, frame in enumerate(kont):
        roots[("frame", k)] = frame_values(frame)
    return roots


def values_in(thing):
    """The values in a thing."""
    if thing[0] != "kept":
        return thing_values(thing)
    values = []
    for frame in thing[1]:
        values.extend(list(frame_values(frame)))
    values.append(thing[2])
    return values


class Web:
    """The addresses in the roots of a standing, and in its things, as far as these were come to."""

    def __init__(self, standing):
        self.store = standing[3]
        self.roots = {root: addresses_in(values) for root, values in values_of_roots(standing).items()}
        self.led = {}

    def goals(self, address):
        """The addresses in a thing."""
        if address not in self.led:
            self.led[address] = addresses_in(values_in(self.store[address]))
        return self.led[address]

    def starts(self, left_out):
        """The addresses in all roots but one."""
        found = []
        for root, addresses in self.roots.items():
            if root != left_out:
                found.extend(addresses)
        return found

    def reached_from(self, addresses, shut):
        """The dict of the addresses reached from some, each with the one from which it was come to first.

        What is shut is reached but leads nowhere; None stands for the roots.
        """
        found = {}
        waiting = [(None, address) for address in addresses]
        while waiting:
            ahead, address = waiting.pop()
            if address not in found:
                found[address] = ahead
                if address != shut:
                    waiting.extend([(address, other) for other in self.goals(address)])
        return found


def all_but(found, others):
    """The addresses of a dict that are not in another one, ascending."""
    return tuple([address for address in sorted(list(found)) if address not in others])


def held(standing, root):
    """The addresses held by a root, ascending."""
    web = Web(standing)
    if root not in web.roots:
        raise OutOfRange(root[1])
    return all_but(web.reached_from(web.starts(None), None), web.reached_from(web.starts(root), None))


def reached_in(web, address):
    """All that is reached, an address among it."""
    found = web.reached_from(web.starts(None), None)
    if address not in found:
        raise NotReached(address)
    return found


def held_by(standing, address):
    """The addresses held by a thing, ascending."""
    web = Web(standing)
    found = reached_in(web, address)
    others = web.reached_from(web.starts(None), address)
    others.pop(address)
    return all_but(found, others)


def road_to(address, found):
    """The addresses through which an address was come to from a root, itself the last one."""
    road = []
    while address is not None:
        road.append(address)
        address = found[address]
    return road[::-1]


class Detours:
    """How far along a road whoever goes from its beginning comes without its further addresses."""

    def __init__(self, web, road):
        self.web = web
        self.number = {address: k for k, address in enumerate(road)}
        self.seen = {}
        self.farthest = 0

    def go_on(self, addresses):
        """Goes on from addresses, up to those of the road."""
        waiting = list(addresses)
        while waiting:
            address = waiting.pop()
            if address in self.number:
                self.farthest = max(self.farthest, self.number[address])
            elif address not in self.seen:
                self.seen[address] = True
                waiting.extend(self.web.goals(address))


def holder(standing, address):
    """The nearest other thing that holds a thing; None if there is none.

    Only what stands on every road from the roots to the thing holds it. So it stands on any one of them, and what
    stands ahead of it there leads no farther than to it.
    """
    web = Web(standing)
    road = road_to(address, reached_in(web, address))
    detours = Detours(web, road)
    detours.go_on(web.starts(None))
    nearest = None
    for k, other in enumerate(road[:-1]):
        if detours.farthest == k:
            nearest = other
        detours.go_on(web.goals(other))
    return nearest


def kinds_bill(standing):
    """(pairs, boxes, functions, kept things, winds, words) of the things that are reached."""
    return image_bill(image_of(standing))
