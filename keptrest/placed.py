"""The places of a program that is run: terms, free numbers, and what frames are cut to."""

from keptrest.spots import bits_of, free_mask, spots_in
from keptrest.terms import parts_of, set_numbers


class Places:
    """A program with all that has been worked out of its places."""

    def __init__(self, program):
        self.terms = {(): program}
        self.masks = {}
        self.frees = {}
        self.laters = {}
        self.boxed = {number: True for number in set_numbers(program)}

    def term(self, place):
        """The term at a place."""
        if place not in self.terms:
            term = self.terms[()]
            for number in place:
                term = parts_of(term)[number]
            self.terms[place] = term
        return self.terms[place]

    def note_within(self, place):
        """Works out what is within the term at a place, all at once: term by term would take too long."""
        spots = spots_in(self.term(place))
        for spot in reversed(spots):
            spot.unbound = free_mask(spot)
            self.masks[place + spot.place] = spot.unbound
            self.terms[place + spot.place] = spot.node

    def free(self, place):
        """The free numbers of the term at a place, as a dict."""
        if place not in self.frees:
            if place not in self.masks:
                self.note_within(place)
            self.frees[place] = {number: True for number in bits_of(self.masks[place])}
        return self.frees[place]

    def later(self, place, child):
        """The numbers that a frame keeps while a child of the term at a place is evaluated, as a dict."""
        key = (place, child)
        if key not in self.laters:
            term = self.term(place)
            kept = {}
            for k in range(child + 1, len(parts_of(term))):
                kept.update(self.free(place + (k,)))
            if term[0] == "let":
                kept.pop(term[1], None)
            self.laters[key] = kept
        return self.laters[key]


def cut_to(env, numbers):
    """An environment cut to the numbers of a dict."""
    return tuple([pair for pair in env if pair[0] in numbers])


def with_pairs(env, pairs):
    """An environment with further pairs, by the numbers, ascending."""
    return tuple(sorted([*env, *pairs], key=number_of))


def number_of(pair):
    return pair[0]
