"""Top forms, and the expansion of a whole program up to its flat list of nodes."""

from keptrest.errors import BadWord, NoForm, TwiceDefined
from keptrest.expansion import Expansion
from keptrest.forms import in_sequence, is_plain_row, need, tasks_of
from keptrest.macros import read_macro
from keptrest.meanings import is_base
from keptrest.nodes import Row, Word, node_of
from keptrest.patterns import ANYTHING, REPEAT, rest_of


class Step:
    """What a top form does in the end: a define's number, or None, with its tasks."""

    def __init__(self, number, path, tasks):
        self.number = number
        self.path = path
        self.tasks = tasks


def need_new(word, expansion):
    """Raises the error of a word that may not be given a top definition."""
    if is_base(word.key) or word.letters in (ANYTHING, REPEAT):
        raise BadWord(word.letters)
    if word.key in expansion.known.top:
        raise TwiceDefined(word.letters)


def top_define(expansion, node):
    """The step of a define."""
    need(is_plain_row(node) and len(node.parts) >= 3, node.path)
    told = node.parts[1]
    if isinstance(told, Word):
        need(len(node.parts) == 3, node.path)
        word = told
        task = ("expression", node.parts[2], None)
    else:
        need(isinstance(told, Row) and isinstance(told.parts[0], Word), node.path)
        word = told.parts[0]
        task = ("function", (rest_of(told, 1), node.parts[2:], node.path), None)
    need_new(word, expansion)
    number = expansion.new_number()
    expansion.known.top[word.key] = ("name", number)
    expansion.fates.note(word, ("binds", number))
    return Step(number, node.path, [("emit", ("set", number), node.path), task])


def top_macro(expansion, node):
    """Defines a macro for the whole program."""
    need(is_plain_row(node) and len(node.parts) >= 3 and isinstance(node.parts[1], Word), node.path)
    word = node.parts[1]
    need_new(word, expansion)
    macro = expansion.new_macro(None)
    expansion.known.top[word.key] = ("macro", macro.number)
    expansion.fates.note(word, ("macro",))
    read_macro(macro, node.parts[2:], expansion.fates)


def top_steps(expansion, program):
    """Goes through the top forms; gives the steps of defines and expressions."""
    steps = []
    waiting = [node_of(datum, (k,)) for k, datum in enumerate(program)][::-1]
    while waiting:
        node = waiting.pop()
        meaning = expansion.head_meaning(node, None)
        if meaning[0] == "macro":
            waiting.append(expansion.used(meaning[1], node, None))
        elif meaning == ("base", "define"):
            steps.append(top_define(expansion, node))
        elif meaning == ("base", "macro"):
            top_macro(expansion, node)
        elif meaning == ("base", "seq"):
            need(is_plain_row(node) and len(node.parts) >= 2, node.path)
            waiting.extend(node.parts[:0:-1])
        else:
            steps.append(Step(None, node.path, [("expression", node, None)]))
    return steps


def run_tasks(expansion):
    """Does what waits, each task ahead of what stands behind it in the program."""
    while expansion.tasks:
        word, thing, more = expansion.tasks.pop()
        if word == "emit":
            expansion.emit(thing, more)
        else:
            expansion.do_first(tasks_of(expansion, word, thing, more))


def expand(program):
    """The expansion of a program, with all its nodes emitted."""
    expansion = Expansion()
    steps = top_steps(expansion, program)
    if not steps:
        raise NoForm()
    tasks = []
    for step in steps:
        if step.number is not None:
            tasks.append(("emit", ("let", step.number), step.path))
            tasks.append(("emit", ("const", ()), step.path))
    expansion.do_first(tasks + in_sequence([(step.path, step.tasks) for step in steps]))
    run_tasks(expansion)
    return expansion
