"""Questions, their answers, and the certificates that show them."""

from keptrest.alike import parting_road
from keptrest.codecheck import code_fault
from keptrest.errors import Open
from keptrest.freecourse import NO_LIMIT, FreeCourse
from keptrest.kinds import is_thing
from keptrest.laps import lap
from keptrest.needs import greatest, needs, trap_event
from keptrest.progtext import read_value
from keptrest.runner import OPEN, first_runner
from keptrest.sameness import is_integer, same_data
from keptrest.standings import start
from keptrest.steps import take_steps


def shown_let_by(program, code):
    """The answer and a certificate for it; so below."""
    fault = code_fault(program, code)
    return (True, ()) if fault is None else (False, fault)


def shown_ends(program, inputs, limits, steps):
    runner = first_runner(program, inputs, limits)
    runner.take_all(steps)
    if runner.ending == OPEN:
        return (False, ("image", runner.last_image()))
    ending, output, count, _ = runner.told()
    return (True, ("ending", count, ending, output))


def shown_never_ends(program, inputs, steps):
    ending, count = take_steps(FreeCourse(program, start(program, inputs)), steps)
    if ending != OPEN:
        return (False, ("ending", count))
    found = lap(program, inputs, steps)
    if found is None:
        raise Open()
    return (True, ("lap", *found))


def shown_enough(program, inputs, steps, room):
    events = needs(program, inputs, steps)
    first = trap_event(events, (room, NO_LIMIT))
    return (True, ("need", greatest(events, "make"))) if first is None else (False, ("event", first))


def moved_value(value, many):
    """A value whose things have been moved by a number of addresses."""
    return ("thing", value[1] + many) if is_thing(value) else value


def shown_alike(text, other):
    store, value = read_value(text)
    behind, mate = read_value(other)
    many = len(store)
    moved = [(kind, moved_value(one, many), moved_value(two, many)) for kind, one, two in behind]
    road = parting_road((*store, *moved), value, moved_value(mate, many))
    return (True, ()) if road is None else (False, ("road", road))


SHOWN = {
    "let by": shown_let_by,
    "ends": shown_ends,
    "never ends": shown_never_ends,
    "enough": shown_enough,
    "alike": shown_alike,
}


def certified(question):
    """The answer to a question, and a certificate for it."""
    word, *told = question
    showing = SHOWN[word]
    return showing(*told)


def answer_to(question):
    """The answer to a question."""
    return certified(question)[0]


def is_lap(certificate, least, steps):
    """True for a certificate with a lap; from the beginning of the least one on all are of so many of its lengths."""
    if type(certificate) is not tuple or len(certificate) != 3 or certificate[0] != "lap":
        return False
    _, begin, end = certificate
    if not is_integer(begin) or not is_integer(end) or not least[1] <= begin < end <= steps:
        return False
    return (end - begin) % (least[2] - least[1]) == 0


def is_certified(question, answer, certificate):
    """True if an answer is right and a certificate is one for it."""
    right, made = certified(question)
    if not same_data(answer, right):
        return False
    if question[0] == "never ends" and right:
        return is_lap(certificate, made, question[3])
    return same_data(certificate, made)
