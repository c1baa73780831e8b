"""Runs that come back to what they were, and the turns of a place."""

from keptrest.core import term_at
from keptrest.coursepairs import have_same_image
from keptrest.frames import words_of_link
from keptrest.freecourse import FreeCourse
from keptrest.lifetimes import Lifetimes
from keptrest.runner import note_course
from keptrest.standings import start
from keptrest.steps import take_step, take_steps


def free_course(program, inputs):
    """The run without bounds, at its first standing."""
    return FreeCourse(program, start(program, inputs))


def course_behind(program, inputs, steps):
    """The run without bounds behind so many steps, at which it is open."""
    course = free_course(program, inputs)
    take_steps(course, steps)
    return course


def mark_of(course):
    """What standings with the same image have the same of, told at once."""
    return (course.control[:-1], words_of_link(course.link), len(course.inputs))


def marks_behind(course, steps):
    """The marks and weights of all standings of so many further steps; None if the run ends in them."""
    lives = Lifetimes(course.memory)
    marks = [mark_of(course)]
    note_course(lives, course)
    for _ in range(steps):
        if take_step(course) is not None:
            return None
        marks.append(mark_of(course))
        note_course(lives, course)
    return list(zip(marks, lives.weights()))


def times_at(program, inputs, goal, likely):
    """The steps, among likely ones, behind which the run has the same image as a course."""
    course = free_course(program, inputs)
    found = []
    done = 0
    for k in likely:
        take_steps(course, k - done)
        done = k
        if have_same_image(course, goal):
            found.append(k)
    return found


def lap(program, inputs, steps):
    """The lap (i, j) with the least j up to a number of steps; None if there is none.

    If there is one, the standing behind all steps comes again and again from i on. So the last time it was there
    tells how long a lap is, and the first one is less than a lap behind i.
    """
    last = free_course(program, inputs)
    marks = marks_behind(last, steps)
    if marks is None:
        return None
    times = times_at(program, inputs, last, [k for k in range(steps) if marks[k] == marks[steps]])
    if not times:
        return None
    length = steps - times[-1]
    begin = max(0, times[0] - length + 1)
    behind = course_behind(program, inputs, begin)
    ahead = course_behind(program, inputs, begin + length)
    while marks[begin] != marks[begin + length] or not have_same_image(behind, ahead):
        take_step(behind)
        take_step(ahead)
        begin += 1
    return (begin, begin + length)


def turns(program, inputs, p, steps):
    """(STEPS, weight, words of KONT) of each turn of a place p in so many steps of the run without bounds."""
    term_at(program, p)
    course = free_course(program, inputs)
    lives = Lifetimes(course.memory)
    found = []
    for done in range(steps + 1):
        if done > 0 and take_step(course) is not None:
            break
        if course.control[0] == "eval" and course.control[1] == p:
            note_course(lives, course)
            found.append((done, words_of_link(course.link)))
    return tuple([(done, weight, words) for (done, words), weight in zip(found, lives.weights())])
