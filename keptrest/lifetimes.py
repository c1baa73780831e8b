"""How long the things of a run are reached.

To go through the whole store at each moment would take too long. What is reached no more never is again, so it is
enough to know for each thing the last moment at which it is reached.
"""

from keptrest.frames import thing_values
from keptrest.memory import Reach


class Lifetimes:
    """The moments that are noted, and the last one at which each value and each frame was held by itself."""

    def __init__(self, memory):
        self.memory = memory
        self.sizes = []
        self.last_held = {}
        self.last_links = {}
        memory.lost = []

    def note_values(self, values, now):
        for value in values:
            if type(value) is tuple and value != () and value[0] == "thing":
                self.last_held[value[1]] = now

    def note_lost(self):
        """Notes what changes took away from things since the last moment, if there was one: it was reached then."""
        memory = self.memory
        if self.sizes:
            for thing in memory.lost:
                self.note_values(thing_values(thing), len(self.sizes) - 1)
        memory.lost = []

    def note_moment(self, values, link):
        """Notes a further moment, at which these values and the frames of a link (None for none) are held."""
        if self.memory.lost:
            self.note_lost()
        now = len(self.sizes)
        self.note_values(values, now)
        if link is not None:
            self.last_links[link] = now
        self.sizes.append(len(self.memory.store))

    def last_reached(self):
        """The dict from addresses to the last moments at which they are reached."""
        held = [[] for _ in self.sizes]
        for address, now in self.last_held.items():
            held[now].append(("thing", address))
        links = [[] for _ in self.sizes]
        for link, now in self.last_links.items():
            links[now].append(link)
        reach = Reach(self.memory)
        for now in range(len(self.sizes) - 1, -1, -1):
            reach.mark = now
            for link in links[now]:
                reach.add_frames(link)
            reach.add_values(held[now])
        return reach.found

    def first_moments(self):
        """For each address the first moment that was noted when it was there."""
        first = []
        for now, size in enumerate(self.sizes):
            first.extend([now] * (size - len(first)))
        return first

    def weights(self):
        """The words of all things that are reached, for each moment."""
        self.note_lost()
        first = self.first_moments()
        rises = [0] * (len(self.sizes) + 1)
        for address, last in self.last_reached().items():
            if address < len(first) and first[address] <= last:
                words = self.memory.words_at(address)
                rises[first[address]] += words
                rises[last + 1] -= words
        weights = []
        weight = 0
        for rise in rises[:-1]:
            weight += rise
            weights.append(weight)
        return weights
