"""Machines whose cells are things of a store, which never move; the heap is a list of their addresses."""

from keptrest.engine import Engine
from keptrest.frames import Link, unlinked, words_of_link, words_of_thing
from keptrest.kinds import is_thing
from keptrest.lifetimes import Lifetimes
from keptrest.memory import Memory, Reach
from keptrest.prims import do_prim
from keptrest.progtext import value_text


def thing_of_cell(kind, data, words):
    """The thing of a cell that is no kept one."""
    if kind == "fn":
        return ("fn", data, tuple(list(enumerate(words))))
    return (kind, data, *words) if kind in ("wind", "frame") else (kind, *words)


class CellEngine(Engine):
    """Makes cells; collects them when there is no room, or at the makings of a schedule."""

    def __init__(self, code, room, deep, schedule):
        Engine.__init__(self, code, room, deep)
        self.schedule = {number: True for number in schedule}
        self.memory = Memory(())
        self.heap = []
        self.heap_words = 0
        self.collections = 0
        self.before = ((), ())
        self.lives = None
        self.places = []
        self.sizes = []

    def measure(self):
        """From now on the places and sizes of makings are noted, and what is reached at them."""
        self.lives = Lifetimes(self.memory)

    def begin_making(self, named):
        """Keeps what may be roots of makings in this step."""
        self.named = named
        self.fresh = []
        self.before = (self.link, self.winds)

    def cell_kind(self, word):
        """The KIND of the cell of an address; empty for constants."""
        if not is_thing(word):
            return ""
        kind = self.memory.store[word[1]][0]
        return "kept" if kind == "caught" else kind

    def cell_place(self, word):
        """The DATA of a "fn" or a "wind"."""
        return self.memory.store[word[1]][1]

    def own_word(self, word, k):
        """A captured word of a "fn"."""
        return self.memory.store[word[1]][2][k][1]

    def part(self, word, k):
        """An item of a box or a wind; the first one, WINDS, of what is kept."""
        thing = self.memory.store[word[1]]
        if thing[0] == "wind":
            return thing[2 + k]
        return thing[2] if thing[0] == "kept" else thing[1 + k]

    def fill_box(self, word, value):
        self.memory.change(word[1], ("box", value))

    def text_of(self, word):
        return value_text(self.memory.store, word)

    def prim_told(self, name, words):
        """What a prim gives, or its trap; what it puts is put."""
        told = do_prim(name, words, self.memory.store)
        if told[0] == "put":
            self.memory.change(told[1], told[2])
            return ("give", ())
        return told

    def has_room(self, size, place):
        """True if a cell of this size may be made now at a place; collects if there is need."""
        if self.lives is not None:
            self.lives.note_moment(self.root_values(), self.root_link())
            self.places.append(place)
            self.sizes.append(size)
        if self.made in self.schedule or self.heap_words + size > self.room:
            self.collect()
        return self.heap_words + size <= self.room

    def collect(self):
        """Keeps what is reached from the roots of the making."""
        reach = Reach(self.memory)
        reach.add_frames(self.root_link())
        reach.add_values(self.root_values())
        self.heap = list(reach.found)
        self.heap_words = reach.total_words()
        self.collections += 1
        self.drop_lost(reach.found)

    def keep_made(self, word, size):
        self.heap.append(word[1])
        self.heap_words += size
        self.made += 1
        self.fresh.append(word)
        return word

    def make(self, kind, place, words):
        """The address of a cell that is made at a place; None if there is no room for it."""
        thing = thing_of_cell(kind, place, words)
        size = words_of_thing(thing)
        if not self.has_room(size, place):
            return None
        return self.keep_made(self.memory.put_behind(thing), size)


class StackEngine(CellEngine):
    """The machine with a stack in one block: here its frames are linked, which does not show."""

    def __init__(self, code, room, deep, schedule):
        CellEngine.__init__(self, code, room, deep, schedule)
        self.link = None

    def root_values(self):
        """The roots of the making, but for those in the stack."""
        return [self.before[1], *self.named, *self.fresh]

    def root_link(self):
        """The frames of the stack as it was before the step."""
        return self.before[0]

    def drop_lost(self, found):
        """All that the state still needs is among what was found."""

    def begin_push(self, words, after):
        """A frame is put behind the stack without a making."""

    def push(self, frame):
        self.link = Link(frame, self.link)
        return True

    def take_frame(self):
        """The newest frame, which is taken off; None if there is none."""
        if self.link is None:
            return None
        frame = self.link.frame
        self.link = self.link.below
        return frame

    def stack_length(self):
        return words_of_link(self.link)

    def frames_of_link(self, link):
        """The frames of a link, the oldest first."""
        return unlinked(link)

    def kept_link(self, word):
        """The link of what is kept."""
        return self.memory.link_at(word[1])

    def clear_stack(self):
        self.link = None

    def restore_stack(self, kept):
        self.link = self.kept_link(kept)

    def make_kept(self, place):
        """The address of a cell of WINDS and the stack; None if there is no room for it."""
        size = 2 + words_of_link(self.link)
        if not self.has_room(size, place):
            return None
        return self.keep_made(self.memory.put_kept(self.link, self.winds), size)
