"""Runs of the meaning that have no bounds."""

from keptrest.course import Course

NO_LIMIT = 10 ** 30


class FreeCourse(Course):
    """A run in which neither room nor depth is looked at."""

    def __init__(self, program, standing):
        Course.__init__(self, program, (NO_LIMIT, NO_LIMIT), standing)

    def has_room(self, words, place):
        return True

    def is_deep(self, _):
        return False
