"""Values that are alike by form, and the roads at which they part."""

from keptrest.errors import NoRoad
from keptrest.kinds import are_one, is_pair, kind_of


class Classes:
    """Addresses that have been joined, one to the other or through others."""

    def __init__(self):
        self.heads = {}

    def head(self, address):
        """The one address that stands for all that are joined with this one."""
        found = address
        while found in self.heads:
            found = self.heads[found]
        while address != found:
            after = self.heads[address]
            self.heads[address] = found
            address = after
        return found

    def join(self, one, other):
        """Joins two addresses; False if they are joined already."""
        head = self.head(one)
        top = self.head(other)
        if head == top:
            return False
        self.heads[head] = top
        return True


def are_apart(store, value, other):
    """True if two values part where they stand."""
    if kind_of(store, value) != kind_of(store, other):
        return True
    return not is_pair(store, value) and not are_one(value, other)


def road_back(reached, at):
    """The road of an entry (VALUE, OTHER, ENTRY BEFORE, LAST INTEGER)."""
    road = []
    while reached[at][2] is not None:
        road.append(reached[at][3])
        at = reached[at][2]
    return tuple(road[::-1])


def parting_road(store, value, other):
    """The least road at which two values part; None if they are alike."""
    classes = Classes()
    reached = [(value, other, None, 0)]
    at = 0
    while at < len(reached):
        one = reached[at][0]
        two = reached[at][1]
        if are_apart(store, one, two):
            return road_back(reached, at)
        if is_pair(store, one) and classes.join(one[1], two[1]):
            for k in (1, 2):
                reached.append((store[one[1]][k], store[two[1]][k], at, k))
        at += 1
    return None


def alike(store, value, other):
    """True if two values part at no road."""
    return parting_road(store, value, other) is None


def value_at(store, value, road):
    """The value at a road."""
    for k, number in enumerate(road):
        if number not in (1, 2) or not is_pair(store, value):
            raise NoRoad(k)
        value = store[value[1]][number]
    return value
