"""The machine whose frames are linked cells, and its states."""

from keptrest.cellengine import CellEngine
from keptrest.engine import GONE
from keptrest.frames import words_of_thing
from keptrest.kinds import is_thing
from keptrest.rowneeds import need_masks, needs_value, slots_needed
from keptrest.stackstates import CellReader, CellWriter, frame_of, plain_head, registers_of, return_of, set_registers


class LinkEngine(CellEngine):
    """LINK, called link here, is the address of the newest frame's cell, or ()."""

    def __init__(self, code, room, schedule):
        CellEngine.__init__(self, code, room, 0, schedule)
        self.link = ()
        self.masks = need_masks(code)

    def root_values(self):
        """The roots of the making."""
        return [*self.before, *self.named, *self.fresh]

    def root_link(self):
        return None

    def drop_lost(self, found):
        """Empties VALUE and slots whose cells are not among those found."""
        self.window = [GONE if is_thing(word) and word[1] not in found else word for word in self.window]
        if is_thing(self.value) and self.value[1] not in found:
            self.value = GONE

    def begin_push(self, words, after):
        """Keeps the roots of the frame's cell: what the row behind needs is kept by nothing else."""
        mask = self.masks[after]
        named = [*words, *self.words_in(slots_needed(mask))]
        if needs_value(mask):
            named.append(self.value)
        self.begin_making(named)

    def put_cell(self, thing, place):
        """The address of the cell of a thing that is made at a place; None if there is no room for it."""
        size = words_of_thing(thing)
        if not self.has_room(size, place):
            return None
        return self.keep_made(self.memory.put_behind(thing), size)

    def push(self, frame):
        place = () if frame[0] == "point" else frame[1]
        word = self.put_cell(("frame", frame[:2], *frame[2:], self.link), place)
        if word is None:
            return False
        self.link = word
        return True

    def take_frame(self):
        """The newest frame, which is taken off; None if there is none."""
        if self.link == ():
            return None
        frame, self.link = self.frame_at(self.link)
        return frame

    def frame_at(self, link):
        """The frame whose cell is at an address, and its NEXT."""
        thing = self.memory.store[link[1]]
        return (*thing[1], *thing[2:-1]), thing[-1]

    def frames_of_link(self, link):
        """The frames from an address on, the oldest first."""
        frames = []
        while link != ():
            frame, link = self.frame_at(link)
            frames.append(frame)
        return tuple(frames[::-1])

    def kept_link(self, word):
        """The address of the newest frame of what is kept."""
        return self.memory.store[word[1]][2]

    def stack_length(self):
        """DEEP does not count here."""
        return 0

    def clear_stack(self):
        self.link = ()

    def restore_stack(self, kept):
        self.link = self.kept_link(kept)

    def make_kept(self, place):
        return self.put_cell(("caught", self.winds, self.link), place)


class LinkReader(CellReader):
    """Reads cells of a linked machine into a store."""

    def read_kept(self, parts):
        self.memory.put_behind(("caught", *self.read_words(parts)))

    def read_frames(self):
        """Gives the cells of frames the frames' heads in the place of their returns."""
        for address, thing in enumerate(list(self.memory.store)):
            if thing[0] == "frame":
                self.memory.store[address] = ("frame", frame_of(thing[1], ()), *thing[2:])


class LinkWriter(CellWriter):
    """Writes the cells of a linked machine."""

    def cell_head(self, thing):
        """KIND and DATA of the cell of a thing."""
        if thing[0] == "frame":
            return "frame", return_of(thing[1])
        return ("kept", None) if thing[0] == "caught" else plain_head(thing)


def link_engine(code, room, schedule, state):
    """The machine of a code that stands in a state."""
    engine = LinkEngine(code, room, schedule)
    reader = LinkReader(state[5])
    reader.read_all()
    reader.read_frames()
    set_registers(engine, reader, state)
    engine.link = reader.read_word(state[3])
    return engine


def link_state(engine):
    """The state in which a machine stands."""
    writer = LinkWriter(engine.memory, engine.heap)
    return registers_of(engine, writer, writer.write_word(engine.link))


def first_link_engine(code, room, schedule, inputs):
    """The machine of a code in its first state."""
    engine = LinkEngine(code, room, schedule)
    engine.inputs = inputs
    return engine
