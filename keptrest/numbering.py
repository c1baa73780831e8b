"""Numbering what a standing reaches, in the order of images."""

from keptrest.frames import unlinked
from keptrest.kinds import is_thing


class Numbering:
    """Gives addresses numbers as they are met, and puts these in their places; order has the addresses met."""

    def __init__(self):
        self.numbers = {}
        self.order = []

    def led_value(self, value):
        """A value with the number of its address."""
        if not is_thing(value):
            return value
        if value[1] not in self.numbers:
            self.numbers[value[1]] = len(self.order)
            self.order.append(value[1])
        return ("thing", self.numbers[value[1]])

    def led_values(self, values):
        return tuple([self.led_value(value) for value in values])

    def led_env(self, env):
        return tuple([(number, self.led_value(value)) for number, value in env])

    def led_control(self, control):
        if control[0] == "eval":
            return (control[0], control[1], self.led_env(control[2]))
        return (control[0], self.led_value(control[1]))

    def led_frame(self, frame):
        kind = frame[0]
        if kind in ("if", "let", "seq"):
            return (kind, frame[1], self.led_env(frame[2]))
        if kind == "args":
            return (kind, frame[1], self.led_values(frame[2]), self.led_env(frame[3]))
        return (kind, frame[1], *self.led_values(frame[2:]))

    def led_frames(self, kont):
        return tuple([self.led_frame(frame) for frame in kont])

    def led_thing(self, thing):
        kind = thing[0]
        if kind == "fn":
            return (kind, thing[1], self.led_env(thing[2]))
        if kind == "kept":
            return (kind, self.led_frames(thing[1]), self.led_value(thing[2]))
        if kind == "wind":
            return (kind, thing[1], *self.led_values(thing[2:]))
        return (kind, *self.led_values(thing[1:]))


def numbered_image(control, kont, winds, inputs, thing_at):
    """The image of a standing, and its addresses by their numbers; thing_at tells the thing of an address."""
    numbering = Numbering()
    led_control = numbering.led_control(control)
    led_kont = numbering.led_frames(kont)
    led_winds = numbering.led_value(winds)
    things = []
    while len(things) < len(numbering.order):
        things.append(numbering.led_thing(thing_at(numbering.order[len(things)])))
    return (led_control, led_kont, led_winds, tuple(things), inputs), numbering.order


def image_and_order(standing):
    """The image of a standing, and its addresses by their numbers."""
    control, kont, winds, store, inputs, _ = standing

    def thing_at(address):
        return store[address]

    return numbered_image(control, kont, winds, inputs, thing_at)


def course_image(course):
    """The image of the standing at which a course stands."""
    memory = course.memory

    def thing_at(address):
        thing = memory.store[address]
        if thing[0] == "kept":
            return ("kept", unlinked(memory.link_at(address)), thing[2])
        return thing

    return numbered_image(course.control, unlinked(course.link), course.winds, course.inputs, thing_at)[0]
