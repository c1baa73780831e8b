"""The standings for which states of machines at named points stand."""

from keptrest.engine import GONE, NONE
from keptrest.moves import later_numbers
from keptrest.numbering import numbered_image
from keptrest.spots import Spots, free_numbers_of


def frame_told(spots, kind, place, done, words):
    """The frame of the meaning with these words as its values."""
    if kind == "set":
        return (kind, place, *words)
    env = tuple(list(zip(later_numbers(spots.at[place], done), words[done:])))
    return (kind, place, tuple(words[:done]), env) if kind == "args" else (kind, place, env)


class Teller:
    """Tells of a machine of a code what it stands for. Values are the words of the machine's store."""

    def __init__(self, program, code):
        self.spots = Spots(program)
        self.maps = code[1]

    def is_named(self, point):
        return point != "back" and self.maps[point] is not None

    def kont_frame(self, frame):
        """The frame of the meaning for which a frame of the stack stands."""
        if frame[0] != "point":
            return frame
        kind, place, done, _ = self.maps[frame[1]][1][0]
        return frame_told(self.spots, kind, place, done, frame[2:])

    def thing_told(self, engine, address):
        """The thing of the meaning for which the cell at an address stands."""
        word = ("thing", address)
        kind = engine.cell_kind(word)
        if kind == "fn":
            _, place, own = engine.memory.store[address]
            numbers = free_numbers_of(self.spots.at[place])
            return ("fn", place, tuple(list(zip(numbers, [value for _, value in own]))))
        if kind == "kept":
            return ("kept", self.frames_told(engine, engine.kept_link(word)), engine.part(word, 0))
        return engine.memory.store[address]

    def frames_told(self, engine, link):
        """The frames of the meaning for which those that a link tells stand, the oldest first."""
        return tuple([self.kont_frame(frame) for frame in engine.frames_of_link(link)])

    def words_at(self, engine, sources):
        """The words of sources; None stands for nothing."""
        words = []
        for source in sources:
            if type(source) is int:
                word = engine.window[source] if source < len(engine.window) else GONE
                words.append(None if word == GONE else word)
            else:
                words.append(source[1])
        return words

    def control_told(self, engine, chart):
        """CONTROL by a map; None if something is missing for it."""
        if chart[0] == "give":
            return None if engine.value in (NONE, GONE) else ("give", engine.value)
        words = self.words_at(engine, chart[2])
        if None in words:
            return None
        return ("eval", chart[1], tuple(list(zip(free_numbers_of(self.spots.at[chart[1]]), words))))

    def local_frames(self, engine, chart):
        """The local frames of a map; None if something is missing for them."""
        frames = []
        for kind, place, done, sources in chart[-1]:
            words = self.words_at(engine, sources)
            if None in words:
                return None
            frames.append(frame_told(self.spots, kind, place, done, words))
        return frames

    def image_told(self, engine):
        """The image of the standing for which a machine at a named point stands, and the addresses by their
        numbers; None if it stands for none."""
        chart = self.maps[engine.point]
        control = self.control_told(engine, chart)
        frames = self.local_frames(engine, chart)
        if control is None or frames is None:
            return None

        def thing_at(address):
            return self.thing_told(engine, address)

        kont = (*self.frames_told(engine, engine.link), *frames)
        return numbered_image(control, kont, engine.winds, engine.inputs, thing_at)
