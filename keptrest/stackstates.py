"""States of the machine with a stack in one block, to its registers and back."""

from keptrest.cellengine import StackEngine, thing_of_cell
from keptrest.frames import Link, thing_values
from keptrest.heap import cells_of, is_address
from keptrest.kinds import is_thing
from keptrest.memory import Memory


def split_stack(stack):
    """The frames (RETURN, WORDS) of a stack, the oldest first; words behind the last return are left out."""
    frames = []
    words = []
    for item in stack:
        if type(item) is tuple and item != () and item[0] == "point":
            frames.append((item, tuple(words)))
            words = []
        else:
            words.append(item)
    return frames


def frame_of(back, words):
    """A frame as machines have it, of a return and its words."""
    return (*back, *words) if len(back) == 2 else (*back[1:], *words)


def return_of(frame):
    """The return of a frame as machines have it."""
    return frame[:2] if frame[0] == "point" else ("point", *frame[:2])


class CellReader:
    """Reads cells into a store: the cell of a number gets an address, which takes its place in words."""

    def __init__(self, heap):
        self.cells = cells_of(heap)
        self.addresses = {cell[0]: k for k, cell in enumerate(self.cells)}
        self.memory = Memory(())

    def read_word(self, word):
        return ("thing", self.addresses[word[1]]) if is_address(word) else word

    def read_words(self, words):
        return [self.read_word(word) for word in words]

    def read_link(self, stack):
        """The link of the frames of a stack."""
        link = None
        for back, words in split_stack(stack):
            link = Link(frame_of(back, self.read_words(words)), link)
        return link

    def read_all(self):
        """Puts all cells into the store, in their order."""
        for _, kind, data, parts in self.cells:
            if kind == "kept":
                self.read_kept(parts)
            else:
                self.memory.put_behind(thing_of_cell(kind, data, self.read_words(parts)))

    def read_kept(self, parts):
        self.memory.put_kept(self.read_link(parts[1:]), self.read_word(parts[0]))


def plain_head(thing):
    """KIND and DATA of the cell of a thing that is no frame."""
    return thing[0], thing[1] if thing[0] in ("fn", "wind") else None


class CellWriter:
    """Writes the cells of a store, one behind the other."""

    def __init__(self, memory, addresses):
        self.memory = memory
        self.addresses = addresses
        self.numbers = {}
        number = 0
        for address in addresses:
            self.numbers[address] = number
            number += 1 + self.item_count(address)

    def item_count(self, address):
        """How many items the cell of a thing has."""
        thing = self.memory.store[address]
        return self.memory.words_at(address) - (1 if thing[0] in ("fn", "kept") else 0)

    def write_word(self, word):
        return ("at", self.numbers[word[1]]) if is_thing(word) else word

    def write_words(self, words):
        return [self.write_word(word) for word in words]

    def write_stack(self, link):
        """The stack of the frames of a link."""
        frames = []
        while link is not None:
            frames.append(link.frame)
            link = link.below
        stack = []
        for frame in reversed(frames):
            stack.extend(self.write_words(frame[2:]))
            stack.append(return_of(frame))
        return stack

    def cell_words(self, address):
        """The items of the cell of a thing."""
        thing = self.memory.store[address]
        if thing[0] == "kept":
            return [self.write_word(thing[2]), *self.write_stack(self.memory.link_at(address))]
        return self.write_words(thing_values(thing))

    def write_heap(self):
        """The heap of all cells."""
        found = []
        for address in self.addresses:
            kind, data = self.cell_head(self.memory.store[address])
            found.append(("cell", kind, data, self.item_count(address)))
            found.extend(self.cell_words(address))
        return tuple(found)

    def cell_head(self, thing):
        """KIND and DATA of the cell of a thing."""
        return plain_head(thing)


def set_registers(engine, reader, state):
    """Gives a machine all that a state has but its stack and its heap."""
    point, value, window, _, winds, _, inputs, output, made = state
    engine.point = point
    engine.value = reader.read_word(value)
    engine.window = reader.read_words(window)
    engine.winds = reader.read_word(winds)
    engine.inputs = inputs
    engine.output = list(output)
    engine.made = made
    engine.memory = reader.memory
    engine.heap = list(range(len(reader.cells)))
    engine.heap_words = sum([reader.memory.words_at(address) for address in engine.heap])


def stack_engine(code, limits, state):
    """The machine of a code that stands in a state."""
    engine = StackEngine(code, *limits)
    reader = CellReader(state[5])
    reader.read_all()
    set_registers(engine, reader, state)
    engine.link = reader.read_link(state[3])
    return engine


def registers_of(engine, writer, stack):
    """The state of a machine whose stack, or what stands for it, is told."""
    value = writer.write_word(engine.value)
    window = tuple(writer.write_words(engine.window))
    winds = writer.write_word(engine.winds)
    output = tuple(engine.output)
    return (engine.point, value, window, stack, winds, writer.write_heap(), engine.inputs, output, engine.made)


def stack_state(engine):
    """The state in which a machine stands."""
    writer = CellWriter(engine.memory, engine.heap)
    return registers_of(engine, writer, tuple(writer.write_stack(engine.link)))


def first_engine(code, limits, inputs):
    """The machine of a code in its first state."""
    engine = StackEngine(code, *limits)
    engine.inputs = inputs
    return engine
