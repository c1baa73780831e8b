"""The state of a run of the meaning, and how things are made in it."""

from keptrest.frames import Link, linked, words_of_link, words_of_thing
from keptrest.memory import Memory, reach_of
from keptrest.placed import Places, cut_to


class Course:
    """A standing that is changed from step to step, with what the steps need to know.

    To measure what is reached takes long. So most_words is kept, which is never less, and only where a thing
    would find no room by it is it measured; at first the room counts as full.
    """

    def __init__(self, program, limits, standing):
        control, kont, winds, store, inputs, output = standing
        self.places = Places(program)
        self.limits = limits
        self.control = control
        self.link = linked(kont)
        self.winds = winds
        self.memory = Memory(store)
        self.inputs = inputs
        self.output = list(output)
        self.turns = []
        self.most_words = limits[0]
        self.made = []
        self.before = (control, self.link, winds)

    def begin_step(self):
        """Keeps what the step begins with: what it makes is measured by that."""
        self.made = []
        self.before = (self.control, self.link, self.winds)

    def push(self, frame):
        self.link = Link(frame, self.link)

    def take_frame(self):
        """The newest frame, which is taken off."""
        frame = self.link.frame
        self.link = self.link.below
        return frame

    def give(self, value):
        self.control = ("give", value)

    def evaluate(self, place, env):
        """The term at a place comes next."""
        self.control = ("eval", place, cut_to(env, self.places.free(place)))

    def trap(self, word, place):
        """The ending of a run that is trapped."""
        return ("trap", word, place)

    def is_deep(self, _):
        """True if a function may not be called at a place, as there are too many words of frames."""
        return words_of_link(self.link) > self.limits[1]

    def has_room(self, words, _):
        """True if a thing of so many words may be made now at a place."""
        room = self.limits[0]
        if self.most_words + words > room:
            reach = reach_of(self.memory, *self.before)
            reach.add_values(self.made)
            self.most_words = reach.total_words()
        return self.most_words + words <= room

    def keep_made(self, value, words):
        self.most_words += words
        self.made.append(value)

    def make(self, thing, place):
        """The value of a thing that is made at a place; None if there is no room for it."""
        words = words_of_thing(thing)
        if not self.has_room(words, place):
            return None
        value = self.memory.put_behind(thing)
        self.keep_made(value, words)
        return value

    def make_kept(self, place):
        """The value of a kept thing of the frames and winds as they are; None if there is no room."""
        words = 2 + words_of_link(self.link)
        if not self.has_room(words, place):
            return None
        value = self.memory.put_kept(self.link, self.winds)
        self.keep_made(value, words)
        return value

    def come(self, winds):
        """A wind comes."""
        self.winds = winds
        self.turns.append(("in", winds[1]))

    def go(self):
        """The newest wind goes."""
        self.turns.append(("out", self.winds[1]))
        self.winds = self.memory.store[self.winds[1]][4]
