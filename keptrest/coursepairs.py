"""Whether two courses of one program stand at standings with the same image."""

from keptrest.collect import Pairing
from keptrest.frames import frame_values, thing_values
from keptrest.kinds import is_thing
from keptrest.memory import control_values
from keptrest.sameness import same_data


def frame_head(frame):
    """KIND, place and j of a frame; j is 0 where nothing is counted."""
    return (frame[0], frame[1], len(frame[2]) if frame[0] == "args" else 0)


def thing_head(thing):
    """The kind of a thing, and its place if it has one."""
    return thing[:2] if thing[0] in ("fn", "wind") else thing[:1]


class CoursePairs(Pairing):
    """Puts the addresses of two courses one to one as their values lead to them."""

    def __init__(self, course, other):
        Pairing.__init__(self)
        self.course = course
        self.other = other

    def join_values(self, values, others):
        """Puts the addresses in two rows of values together; False if the rows do not go with each other."""
        for value, mate in zip(values, others):
            if is_thing(value) and is_thing(mate):
                if not self.join(value[1], mate[1]):
                    return False
            elif not same_data(value, mate):
                return False
        return len(values) == len(others)

    def join_frames(self, link, mate):
        """Likewise for two KONTs."""
        while link is not None and mate is not None:
            if frame_head(link.frame) != frame_head(mate.frame):
                return False
            if not self.join_values(frame_values(link.frame), frame_values(mate.frame)):
                return False
            link = link.below
            mate = mate.below
        return link is None and mate is None

    def join_things(self, address, mate):
        """Likewise for what is in two things."""
        thing = self.course.memory.store[address]
        like = self.other.memory.store[mate]
        if thing_head(thing) != thing_head(like):
            return False
        if thing[0] != "kept":
            return self.join_values(thing_values(thing), thing_values(like))
        links = (self.course.memory.link_at(address), self.other.memory.link_at(mate))
        return self.join_frames(*links) and self.join_values(thing[2:], like[2:])

    def holds(self):
        """True if the standings of both have the same image; their INPUTs have equal lengths."""
        one, two = self.course, self.other
        if one.control[:-1] != two.control[:-1]:
            return False
        if not self.join_values([*control_values(one.control), one.winds], [*control_values(two.control), two.winds]):
            return False
        if not self.join_frames(one.link, two.link):
            return False
        at = 0
        while at < len(self.order):
            if not self.join_things(self.order[at], self.forth[self.order[at]]):
                return False
            at += 1
        return True


def have_same_image(course, other):
    """True if two runs of one program with the same inputs stand at standings with the same image."""
    return len(course.inputs) == len(other.inputs) and CoursePairs(course, other).holds()
