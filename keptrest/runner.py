"""Runs of the meaning from a standing on, with the weights of their standings."""

from keptrest.course import Course
from keptrest.images import image_of
from keptrest.lifetimes import Lifetimes
from keptrest.memory import control_values
from keptrest.numbering import course_image
from keptrest.standings import start
from keptrest.steps import take_step

OPEN = ("open",)


def note_course(lives, course):
    """Notes what the standing of a course holds itself."""
    lives.note_moment([*control_values(course.control), course.winds], course.link)


class Runner:
    """A course with how many steps of it were done and how it ended, each standing of it being noted."""

    def __init__(self, program, limits, standing):
        self.course = Course(program, limits, standing)
        self.lives = Lifetimes(self.course.memory)
        self.done = 0
        self.ending = OPEN
        note_course(self.lives, self.course)

    def take(self):
        """Does one step of a run that is open."""
        ending = take_step(self.course)
        self.done += 1
        if ending is None:
            note_course(self.lives, self.course)
        else:
            self.ending = ending

    def take_all(self, steps):
        """Goes on until so many steps are done or the run has ended."""
        while self.done < steps and self.ending == OPEN:
            self.take()

    def told(self):
        """(ENDING, OUTPUT, COUNT, WEIGHT) of the steps that were done."""
        return (self.ending, tuple(self.course.output), self.done, max(self.lives.weights()))

    def last_image(self):
        """The image at which a run stands that is open; None if it has ended."""
        return course_image(self.course) if self.ending == OPEN else None


def first_runner(program, inputs, limits):
    """The run of a program with inputs, at its first standing."""
    return Runner(program, limits, start(program, inputs))


def first_image(program, inputs):
    """The image of the first standing of a program with inputs."""
    return image_of(start(program, inputs))
