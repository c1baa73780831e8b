"""The store of a run, and what is reached in it."""

from keptrest.frames import frame_values, linked, thing_values, unlinked, words_of_link, words_of_thing


class Memory:
    """A store whose kept things share their frames: a kept thing's KONT is None where a link tells it."""

    def __init__(self, store):
        self.store = list(store)
        self.links = {}
        self.lost = None

    def put_behind(self, thing):
        """The value of a thing that is put behind the store."""
        self.store.append(thing)
        return ("thing", len(self.store) - 1)

    def put_kept(self, link, winds):
        """The value of a kept thing that is put behind the store."""
        self.links[len(self.store)] = link
        return self.put_behind(("kept", None, winds))

    def change(self, address, thing):
        """Changes the thing at an address; what it was is kept if somebody wants to know what was lost."""
        if self.lost is not None:
            self.lost.append(self.store[address])
        self.store[address] = thing

    def link_at(self, address):
        """The frames of the kept thing at an address."""
        if address not in self.links:
            self.links[address] = linked(self.store[address][1])
        return self.links[address]

    def words_at(self, address):
        """The words of the thing at an address."""
        thing = self.store[address]
        if thing[0] == "kept":
            return 2 + words_of_link(self.link_at(address))
        return words_of_thing(thing)

    def whole_store(self):
        """The store as the meaning has it."""
        store = []
        for address, thing in enumerate(self.store):
            if thing[0] == "kept" and thing[1] is None:
                thing = ("kept", unlinked(self.links[address]), thing[2])
            store.append(thing)
        return tuple(store)


class Reach:
    """Goes from values and frames to all addresses that are reached from them, and marks these."""

    def __init__(self, memory):
        self.memory = memory
        self.mark = 0
        self.found = {}
        self.seen_links = {}
        self.waiting = []

    def add_frames(self, link):
        """Adds the values of frames; frames that have been come to have been so with all below."""
        while link is not None and link not in self.seen_links:
            self.seen_links[link] = True
            self.waiting.extend(frame_values(link.frame))
            link = link.below

    def add_thing(self, address):
        self.found[address] = self.mark
        thing = self.memory.store[address]
        if thing[0] == "kept":
            self.add_frames(self.memory.link_at(address))
            self.waiting.append(thing[2])
        else:
            self.waiting.extend(thing_values(thing))

    def add_values(self, values):
        """Adds values and all that is reached from what waits."""
        self.waiting.extend(values)
        while self.waiting:
            value = self.waiting.pop()
            if type(value) is tuple and value != () and value[0] == "thing" and value[1] not in self.found:
                self.add_thing(value[1])

    def total_words(self):
        """The words of all things that have been reached."""
        return sum([self.memory.words_at(address) for address in self.found])


def control_values(control):
    """The values in a CONTROL."""
    if control[0] == "eval":
        return [value for _, value in control[2]]
    return [control[1]]


def reach_of(memory, control, link, winds):
    """What is reached in a standing."""
    reach = Reach(memory)
    reach.add_frames(link)
    reach.add_values(control_values(control))
    reach.add_values([winds])
    return reach
