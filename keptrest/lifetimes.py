"""How long the things of a run are reached, from what its standings hold themselves.

To go through the whole store at each standing would take too long. What is reached no more never is
again, so it is enough to know for each thing the last standing in which it is reached.
"""

from keptrest.frames import thing_values
from keptrest.memory import Reach, control_values


class Lifetimes:
    """The last standing at which each value and each frame was held by a standing itself."""

    def __init__(self, course):
        self.course = course
        self.sizes = []
        self.last_held = {}
        self.last_links = {}
        self.note_standing()

    def note_values(self, values, now):
        for value in values:
            if type(value) is tuple and value != () and value[0] == "thing":
                self.last_held[value[1]] = now

    def note_standing(self):
        """Notes what the standing holds, and what a change took away from a thing of the one before."""
        course = self.course
        memory = course.memory
        now = len(self.sizes)
        if memory.changed is not None:
            self.note_values(thing_values(memory.changed), now - 1)
            memory.changed = None
        self.note_values(control_values(course.control), now)
        self.note_values([course.winds], now)
        if course.link is not None:
            self.last_links[course.link] = now
        self.sizes.append(len(memory.store))

    def last_reached(self):
        """The dict from addresses to the last standings in which they are reached."""
        held = [[] for _ in self.sizes]
        for address, now in self.last_held.items():
            held[now].append(("thing", address))
        links = [[] for _ in self.sizes]
        for link, now in self.last_links.items():
            links[now].append(link)
        reach = Reach(self.course.memory)
        for now in range(len(self.sizes) - 1, -1, -1):
            reach.mark = now
            for link in links[now]:
                reach.add_frames(link)
            reach.add_values(held[now])
        return reach.found

    def first_standings(self):
        """For each address the standing behind the step that made it."""
        first = []
        for now, size in enumerate(self.sizes):
            first.extend([now] * (size - len(first)))
        return first

    def greatest_weight(self):
        """The greatest weight of a standing."""
        first = self.first_standings()
        rises = [0] * (len(self.sizes) + 1)
        for address, last in self.last_reached().items():
            words = self.course.memory.words_at(address)
            rises[first[address]] += words
            rises[last + 1] -= words
        weight = 0
        greatest = 0
        for rise in rises:
            weight += rise
            greatest = max(greatest, weight)
        return greatest
