"""The prompt programs of the library, their inputs, and what they show."""

from keptrest.datatext import constant_text, read_data
from keptrest.expander import expanded
from keptrest.librarytexts import CELL, CHOICES, FRINGE, LEAVES, TASKS
from keptrest.names import renumbered
from keptrest.sameness import same_data
from keptrest.terms import nodes_of, parts_of, with_parts

PROMPT = ("var", 0)
TAKE = ("var", 1)
NOTHING = ("end", "()")


def with_prompt(term):
    """A term with the prim for which it stands, if it is a call of one of the two names."""
    if term[0] == "call" and term[1] == PROMPT:
        return ("prim", "prompt", term[2])
    if term[0] == "call" and term[1] == TAKE:
        return ("prim", "take", term[2])
    return term


def program_of(text):
    """The prompt program of a text of the library."""
    body = expanded(read_data(text), ())[3]
    made = []
    for term in nodes_of(body)[::-1]:
        parts = [made.pop() for _ in parts_of(term)]
        made.append(with_prompt(with_parts(term, parts)))
    return renumbered(made[0])


def leaves_program():
    """The program that shows the leaves of a tree."""
    return program_of(LEAVES)


def fringe_program():
    """The program that compares the leaves of two trees."""
    return program_of(FRINGE)


def choices_program():
    """The program that chooses from lists in all ways."""
    return program_of(CHOICES)


def tasks_program():
    """The program whose tasks take turns."""
    return program_of(TASKS)


def cell_program():
    """The program with a cell that is kept by a prompt."""
    return program_of(CELL)


def parts_in(tree):
    """A tree and all trees in it, each ahead of those in it, from left to right."""
    found = []
    waiting = [tree]
    while waiting:
        part = waiting.pop()
        found.append(part)
        if part[0] == "two":
            waiting.extend([part[2], part[1]])
    return found


def leaves_in(tree):
    """The leaves of a tree, from left to right."""
    return [part[1] for part in parts_in(tree) if part[0] == "leaf"]


def tree_inputs(tree):
    """The inputs of a tree."""
    found = []
    for part in parts_in(tree):
        found.extend([0, part[1]] if part[0] == "leaf" else [1])
    return tuple(found)


def rows_inputs(rows):
    """The number of some rows, and each one with its length ahead."""
    found = [len(rows)]
    for row in rows:
        found.append(len(row))
        found.extend(list(row))
    return found


def choice_inputs(lists, test):
    """The inputs of the choices program."""
    return (*rows_inputs(lists), ("name", test[0]), *test[1:])


def task_inputs(rows):
    """The inputs of the tasks program."""
    return tuple(rows_inputs(rows))


def cell_inputs(steps):
    """The inputs of the cell program."""
    found = []
    for step in steps:
        found.append(("name", step[0]))
        found.extend(list(step[1:]))
    return tuple(found)


def leaves_told(tree):
    """(ENDING, OUTPUT) of the leaves program."""
    return (NOTHING, tuple([constant_text(leaf) for leaf in leaves_in(tree)]))


def fringe_told(one, other):
    """(ENDING, OUTPUT) of the fringe program."""
    left = leaves_in(one)
    right = leaves_in(other)
    output = []
    for k in range(max(len(left), len(right))):
        turn = left[k:k + 1] + right[k:k + 1]
        output.extend([constant_text(leaf) for leaf in turn])
        if len(turn) == 1 or not same_data(turn[0], turn[1]):
            return (("end", constant_text(False)), tuple(output))
    return (("end", constant_text(True)), tuple(output))


def rows_of(lists):
    """All rows with one member of each list, in the order of the places of their members."""
    rows = [()]
    for members in lists:
        rows = [(*row, member) for row in rows for member in members]
    return rows


def passes(row, test):
    """True if a row passes a test."""
    if test[0] == "sum":
        return sum(row) == test[1]
    if test[0] == "rising":
        return all([row[k] < row[k + 1] for k in range(len(row) - 1)])
    return len(set(row)) == len(row)


def list_text(texts):
    """The text of a list whose items have these texts."""
    return "(" + " ".join(texts) + ")"


def choices_told(lists, test):
    """(ENDING, OUTPUT) of the choices program."""
    texts = [list_text([str(member) for member in row]) for row in rows_of(lists) if passes(row, test)]
    return (("end", list_text(texts)), ())


def tasks_told(rows):
    """(ENDING, OUTPUT) of the tasks program."""
    output = []
    for k in range(max([len(row) for row in rows], default=0)):
        output.extend([str(row[k]) for row in rows if k < len(row)])
    return (NOTHING, tuple(output))


def cell_told(steps):
    """(ENDING, OUTPUT) of the cell program."""
    state = 0
    output = []
    for step in steps:
        if step[0] == "put":
            state = step[1]
        elif step[0] == "add":
            state = state + step[1]
        else:
            output.append(str(state))
    return (("end", str(state)), tuple(output))
