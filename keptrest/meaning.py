"""The meaning of programs: single steps, and runs."""

from keptrest.course import Course
from keptrest.frames import unlinked, words_of_link
from keptrest.runner import first_runner
from keptrest.standings import start
from keptrest.steps import take_step, take_steps


def standing_of_course(course):
    """The standing at which a course stands."""
    memory = course.memory
    kont = unlinked(course.link)
    return (course.control, kont, course.winds, memory.whole_store(), course.inputs, tuple(course.output))


def step(program, limits, standing):
    """("on", STANDING) with the next standing, or ("ended", ENDING, OUTPUT)."""
    course = Course(program, limits, standing)
    ending = take_step(course)
    if ending is not None:
        return ("ended", ending, tuple(course.output))
    return ("on", standing_of_course(course))


def run(program, inputs, limits, steps):
    """(ENDING, OUTPUT, COUNT, WEIGHT) of a run of at most so many steps."""
    runner = first_runner(program, inputs, limits)
    runner.take_all(steps)
    return runner.told()


def standing_after(program, inputs, limits, steps):
    """The standing behind so many steps; None if the run has ended by then."""
    course = Course(program, limits, start(program, inputs))
    return standing_of_course(course) if take_steps(course, steps)[0] == ("open",) else None


def is_body(course):
    """True if the body of a function comes next."""
    if course.control[0] != "eval" or course.control[1] == ():
        return False
    return course.places.term(course.control[1][:-1])[0] == "fn"


def step_words(program, inputs, limits, steps):
    """The pairs (PLACE, words of KONT) of all standings at which the body of a function comes next."""
    course = Course(program, limits, start(program, inputs))
    found = []
    for _ in range(steps):
        if take_step(course) is not None:
            break
        if is_body(course):
            found.append((course.control[1], words_of_link(course.link)))
    return tuple(found)
