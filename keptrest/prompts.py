"""Prompt programs: their meaning, and the programs with keep that do the same."""

from keptrest.core import core_places, depth_of, node_count
from keptrest.coreform import first_fault
from keptrest.emitter import Emitter, call, function, sourced, var
from keptrest.freecourse import FreeCourse
from keptrest.heads import head_of
from keptrest.meaning import standing_of_course
from keptrest.spots import CALLING_PRIMS, Spots
from keptrest.standings import start
from keptrest.steps import take_step, take_steps
from keptrest.terms import all_binders, is_counted

PROMPT_PRIMS = ("prompt", "take")
MOST_NODES = 400
DEEPEST = 60


def prompt_places(name):
    """How many parts a prim of a prompt program wants; None for what is none."""
    if name in PROMPT_PRIMS:
        return 1
    return None if name in CALLING_PRIMS else core_places(name)


def is_prompt_program(value):
    """True for a prompt program."""
    if first_fault(value, prompt_places) is not None or not is_counted(all_binders(value)):
        return False
    return node_count(value) <= MOST_NODES and depth_of(value) <= DEEPEST


def prompt_start(program, inputs):
    """The first standing."""
    control, _, *others = start(program, inputs)
    return (control, (("mark", ()),), *others)


def prompt_step(program, standing):
    """("on", STANDING) with the next standing, or ("ended", ENDING, OUTPUT)."""
    course = FreeCourse(program, standing)
    ending = take_step(course)
    if ending is not None:
        return ("ended", ending, tuple(course.output))
    return ("on", standing_of_course(course))


def prompt_run(program, inputs, steps):
    """(ENDING, OUTPUT, COUNT) of a run of at most so many steps."""
    course = FreeCourse(program, prompt_start(program, inputs))
    ending, count = take_steps(course, steps)
    return (ending, tuple(course.output), count)


class PromptEmitter(Emitter):
    """Emits the plain program of a prompt program; box is the number of mk."""

    def __init__(self, program):
        Emitter.__init__(self, program, dict(DOINGS))
        self.box = self.new_numbers(1)[0]

    def kept(self, number, body):
        """A keep whose function has this parameter."""
        return ("prim", "keep", (function((number,), body),))

    def ending_with(self, called):
        """What gives the value of a call to the function in mk."""
        v = self.new_numbers(1)[0]
        return ("let", v, called, call(self.box, var(v)))

    def reset(self, k, called):
        """R and S: a call is done upon a mark, with k the number of what is kept below it."""
        m, r = self.new_numbers(2)
        way_out = function((r,), ("seq", ("set", self.box, var(m)), call(k, var(r))))
        begun = ("seq", ("set", self.box, way_out), self.ending_with(called))
        return self.kept(k, ("let", m, var(self.box), begun))

    def prompted(self, called):
        """R, with the call of its function."""
        return self.reset(self.new_numbers(1)[0], called)

    def taken(self, f, place):
        """What a take at a place does with the function that f means."""
        k, q, x, h = self.new_numbers(4)
        part = function((x,), self.reset(h, call(k, var(x))))
        return self.kept(k, ("let", q, part, self.ending_with(sourced(place, call(f, var(q))))))


def do_plain(emitter, spot):
    """The tasks of what a term of a prompt program becomes."""
    if spot.kind == "prim" and spot.node[1] in PROMPT_PRIMS:
        number = emitter.new_numbers(1)[0]
        if spot.node[1] == "prompt":
            term = emitter.prompted(sourced(spot.place, call(number)))
        else:
            term = emitter.taken(number, spot.place)
        return [("head", ("let", number), None), ("plain", spot.below[0]), ("term", term)]
    place = spot.place if spot.kind in ("call", "prim") else None
    return [("head", head_of(spot.node), place)] + [("plain", part) for part in spot.below]


DOINGS = {"plain": do_plain}


def plain_of_prompts(program):
    """The plain program of a prompt program, and its origins."""
    emitter = PromptEmitter(program)
    z = emitter.new_numbers(1)[0]
    tasks = [("head", ("let", emitter.box), None), ("term", ("const", False)), ("head", ("let", z), None),
             ("head", ("fn", (), None), None), ("plain", Spots(program).nodes[0]),
             ("term", emitter.prompted(call(z)))]
    emitter.do_all(tasks)
    return emitter.program_and_origins()
