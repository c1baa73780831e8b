"""What a run needs: its makings and calls, as it goes without bounds."""

from keptrest.frames import words_of_link
from keptrest.freecourse import FreeCourse
from keptrest.lifetimes import Lifetimes
from keptrest.memory import control_values
from keptrest.standings import start
from keptrest.steps import take_step


class EventCourse(FreeCourse):
    """A run without bounds whose events are noted, makings with the words of what is made alone."""

    def __init__(self, program, inputs):
        FreeCourse.__init__(self, program, start(program, inputs))
        self.lives = Lifetimes(self.memory)
        self.done = 0
        self.noted = []

    def has_room(self, words, place):
        control, link, winds = self.before
        self.lives.note_moment([*control_values(control), winds, *self.made], link)
        self.noted.append(("make", self.done, place, words))
        return True

    def is_deep(self, place):
        self.noted.append(("call", self.done, place, words_of_link(self.link)))
        return False

    def all_events(self):
        """The events with the needs of makings."""
        weights = self.lives.weights()[::-1]
        events = []
        for event in self.noted:
            if event[0] == "make":
                event = (*event[:3], event[3] + weights.pop())
            events.append(event)
        return tuple(events)


def needs(program, inputs, steps):
    """The events of so many steps of the run without bounds."""
    course = EventCourse(program, inputs)
    while course.done < steps and take_step(course) is None:
        course.done += 1
    return course.all_events()


def greatest(events, word):
    """The greatest number of the events of a word; 0 if there are none."""
    return max([event[3] for event in events if event[0] == word], default=0)


def least_room(program, inputs, steps):
    """The least ROOM with which no making of so many steps is trapped."""
    return greatest(needs(program, inputs, steps), "make")


def least_deep(program, inputs, steps):
    """The least DEEP with which no call of so many steps is trapped."""
    return greatest(needs(program, inputs, steps), "call")


def trap_event(events, limits):
    """The number of the first event at which a run with limits ends; None if there is none."""
    room, deep = limits
    for k, event in enumerate(events):
        if event[3] > (room if event[0] == "make" else deep):
            return k
    return None


def rooms_told(events):
    """The pairs (NEED, NUMBER) of the makings that need more than all ahead of them."""
    found = []
    for k, event in enumerate(events):
        if event[0] == "make" and (not found or event[3] > found[-1][0]):
            found.append((event[3], k))
    return tuple(found)
