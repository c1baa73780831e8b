"""Lists of winds, the ways between them, and their comings and goings in a run."""

from keptrest.course import Course
from keptrest.standings import start
from keptrest.steps import take_steps


def winds_of(store, winds):
    """The addresses of some winds, the newest first."""
    found = []
    while winds != ():
        found.append(winds[1])
        winds = store[winds[1]][4]
    return tuple(found)


def winds_way(store, one, other):
    """(LEFT, ENTERED) of the way from one list of winds to another."""
    left = list(winds_of(store, one))
    entered = list(winds_of(store, other))
    while left and entered and left[-1] == entered[-1]:
        left.pop()
        entered.pop()
    return (tuple(left), tuple(entered[::-1]))


def wind_turns(program, inputs, limits, steps):
    """All comings ("in", ADDRESS) and goings ("out", ADDRESS) of so many steps of a run."""
    course = Course(program, limits, start(program, inputs))
    take_steps(course, steps)
    return tuple(course.turns)
