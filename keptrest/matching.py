"""States of the machine that match standings of the meaning."""

from keptrest.course import Course
from keptrest.heap import cells_of
from keptrest.images import standing_of
from keptrest.numbering import course_image, image_and_order
from keptrest.rowsteps import take_row
from keptrest.sameness import same_data
from keptrest.stackstates import first_engine, stack_engine
from keptrest.standings import start
from keptrest.steps import take_step
from keptrest.telling import Teller


def told_at(program, code, state):
    """The image of the standing for which a state stands, and its cells' numbers; None if there is none."""
    teller = Teller(program, code)
    if not teller.is_named(state[0]):
        return None
    told = teller.image_told(stack_engine(code, (0, 0, ()), state))
    if told is None:
        return None
    cells = cells_of(state[5])
    return told[0], [cells[address][0] for address in told[1]]


def standing_told(program, code, state):
    """The standing for which a state stands; None if it stands for none."""
    told = told_at(program, code, state)
    return None if told is None else (*standing_of(told[0])[:5], state[7])


def match_map(program, code, standing, state):
    """The map if a state matches a standing, otherwise None."""
    told = told_at(program, code, state)
    if told is None:
        return None
    image, order = image_and_order(standing)
    if not same_data((image, standing[5]), (told[0], state[7])):
        return None
    return tuple(sorted(list(zip(order, told[1])), key=lambda pair: pair[0]))


class Follower:
    """The meaning's run, that follows a machine from arrival to arrival."""

    def __init__(self, program, code, inputs, limits, steps):
        self.course = Course(program, limits, start(program, inputs))
        self.teller = Teller(program, code)
        self.left = steps
        self.image = None

    def is_at(self, engine, image):
        """True if the machine, whose image is told, matches the standing at which the meaning is."""
        course = self.course
        if course.control[:-1] != image[0][:-1] or len(course.output) != len(engine.output):
            return False
        if self.image is None:
            self.image = course_image(course)
        return same_data((self.image, course.output), (image, engine.output))

    def finds(self, engine):
        """True if a standing is found that a machine at a named point matches, from the one found last on."""
        told = self.teller.image_told(engine)
        if told is None:
            return False
        while not self.is_at(engine, told[0]):
            if self.left == 0 or take_step(self.course) is not None:
                self.left = 0
                return False
            self.left -= 1
            self.image = None
        return True


def parting(program, code, inputs, limits, schedule, steps, rows):
    """(k, POINT) of the first arrival that is a parting; None if there is none behind so many machine steps."""
    engine = first_engine(code, (*limits, schedule), inputs)
    follower = Follower(program, code, inputs, limits, steps)
    arrival = 0
    for done in range(rows + 1):
        if done > 0 and take_row(engine) is not None:
            return None
        if follower.teller.is_named(engine.point):
            if not follower.finds(engine):
                return (arrival, engine.point)
            arrival += 1
    return None
