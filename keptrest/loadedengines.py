"""Machines that are loaded with images, at points that were found for them."""

from keptrest.codemaps import count_window
from keptrest.engine import GONE
from keptrest.frames import linked, thing_values
from keptrest.linkengine import first_link_engine
from keptrest.signs import written
from keptrest.stackstates import first_engine


def machine_thing(thing):
    """A thing that is no kept one, as machines have it: captured words are counted."""
    return ("fn", thing[1], tuple(list(enumerate(thing_values(thing))))) if thing[0] == "fn" else thing


def fill_registers(engine, loader, image, spot):
    """Gives a machine all that stands at a point, but for its stack and its heap."""
    control, _, winds, _, _ = image
    point, window = spot
    engine.point = point
    engine.window = [window.get(slot, GONE) for slot in range(count_window(loader.maps[point]))]
    if control[0] == "give":
        engine.value = control[1]
    engine.winds = winds
    engine.heap = list(range(len(engine.memory.store)))


def stack_frames(loader, image, spot):
    """The frames of KONT that are in the stack, as machines have them: all but the local ones."""
    kont = image[1]
    many = len(kont) - len(loader.maps[spot[0]][-1])
    return [loader.machine_frame(frame) for frame in kont[:many]]


def loaded_engine(code, limits, loader, image, spot):
    """The machine with a stack in one block that is loaded with an image."""
    engine = first_engine(code, (*limits[:2], ()), image[4])
    memory = engine.memory
    for thing in image[3]:
        if thing[0] == "kept":
            memory.put_kept(linked([loader.machine_frame(frame) for frame in thing[1]]), thing[2])
        else:
            memory.put_behind(machine_thing(thing))
    engine.link = linked(stack_frames(loader, image, spot))
    fill_registers(engine, loader, image, spot)
    return engine


class FrameCells:
    """Puts frames behind a store as cells; KONTs that begin alike share the cells of what they begin with."""

    def __init__(self, memory):
        self.memory = memory
        self.known = {}

    def cell_of(self, frame, below):
        """The address of the cell of a frame whose NEXT is below."""
        key = (frame[:2], tuple([written(word) for word in frame[2:]]), below)
        if key not in self.known:
            self.known[key] = self.memory.put_behind(("frame", frame[:2], *frame[2:], below))
        return self.known[key]

    def link_of(self, frames):
        """The LINK of some frames, the oldest first."""
        link = ()
        for frame in frames:
            link = self.cell_of(frame, link)
        return link


def loaded_link_engine(code, loader, image, spot):
    """The linked machine that is loaded with an image."""
    engine = first_link_engine(code, 0, (), image[4])
    memory = engine.memory
    for thing in image[3]:
        memory.put_behind(machine_thing(thing))
    cells = FrameCells(memory)
    for address, thing in enumerate(image[3]):
        if thing[0] == "kept":
            link = cells.link_of([loader.machine_frame(frame) for frame in thing[1]])
            memory.store[address] = ("caught", thing[2], link)
    engine.link = cells.link_of(stack_frames(loader, image, spot))
    fill_registers(engine, loader, image, spot)
    return engine
