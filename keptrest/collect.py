"""The collector: what is reached is put one behind the other in met order."""

from keptrest.heap import cell_size, is_address, new_cell, reached_cells, used_words
from keptrest.sameness import same_data


def led_words(words, places):
    """Words and returns with all addresses led to their new places."""
    return tuple([("at", places[word[1]]) if is_address(word) else word for word in words])


def places_behind(numbers, heap):
    """The dict from the numbers of cells to their new ones, one behind the other."""
    places = {}
    end = 0
    for number in numbers:
        places[number] = end
        end += 1 + heap[number][3]
    return places


def collect(roots, heap):
    """(ROOTS', HEAP', MOVED) of a collecting."""
    numbers = reached_cells(roots, heap)
    places = places_behind(numbers, heap)
    kept = []
    for number in numbers:
        header = heap[number]
        kept.append(header)
        kept.extend(list(led_words(heap[number + 1:number + 1 + header[3]], places)))
    moved = tuple([(number, places[number]) for number in sorted(list(places))])
    return (led_words(roots, places), tuple(kept), moved)


def plain_heap(roots, heap):
    """(ROOTS', HEAP') of a collecting."""
    return collect(roots, heap)[:2]


class Pairing:
    """Puts the cells of two heaps one to one as words lead to them."""

    def __init__(self):
        self.forth = {}
        self.back = {}
        self.order = []

    def join(self, one, other):
        """Puts two cells together; False if one of them stands with another one."""
        if one in self.forth or other in self.back:
            return self.forth.get(one) == other and self.back.get(other) == one
        self.forth[one] = other
        self.back[other] = one
        self.order.append(one)
        return True

    def join_words(self, words, others):
        """Puts the cells of two rows of words together; False if the rows do not go with each other."""
        if len(words) != len(others):
            return False
        for word, other in zip(words, others):
            if is_address(word) and is_address(other):
                if not self.join(word[1], other[1]):
                    return False
            elif not same_data(word, other):
                return False
        return True

    def all_pairs(self):
        """The ascending tuple of the pairs of numbers."""
        return tuple([(one, self.forth[one]) for one in sorted(list(self.forth))])


def heap_map(roots, heap, others, other):
    """The map of the reached cells of two pairs; None if there is none."""
    pairing = Pairing()
    if not pairing.join_words(roots, others):
        return None
    at = 0
    while at < len(pairing.order):
        one = pairing.order[at]
        two = pairing.forth[one]
        header = heap[one]
        if not same_data(header, other[two]):
            return None
        many = header[3] + 1
        if not pairing.join_words(heap[one + 1:one + many], other[two + 1:two + many]):
            return None
        at += 1
    return pairing.all_pairs()


def make_cell(room, collects, roots, heap, kind, data, items):
    """("made", ITEMS, ROOTS', HEAP', ADDRESS) of a making, or ("trap", WORDS)."""
    size = cell_size(kind, len(items))
    used = used_words(heap)
    if collects or used + size > room:
        led, heap = plain_heap((*items, *roots), heap)
        items, roots = led[:len(items)], led[len(items):]
        used = used_words(heap)
    if used + size > room:
        return ("trap", used)
    heap, address = new_cell(heap, kind, data, items)
    return ("made", items, roots, heap, address)
