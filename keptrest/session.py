"""Sessions: lots of top forms, and runs that are held, with what there is to undo and to redo."""

from keptrest.datatext import read_data
from keptrest.errors import (BadLimits, BadName, NameTaken, NoForm, NothingHeld, NothingToRedo, NothingToUndo,
                             UnknownName)
from keptrest.expander import expanded
from keptrest.images import standing_of
from keptrest.imagetext import image_text, read_image
from keptrest.runner import OPEN, Runner, first_image, first_runner
from keptrest.sameness import is_integer, same_data
from keptrest.stops import need_fitting

GREATEST_LIMIT = 20000
LONGEST_NAME = 12
LETTERS = "abcdefghijklmnopqrstuvwxyz"


def is_limit(value):
    """True for a number that may be a limit."""
    return is_integer(value) and 0 <= value <= GREATEST_LIMIT


def are_limits(value):
    return type(value) is tuple and len(value) == 2 and is_limit(value[0]) and is_limit(value[1])


def is_name(value):
    """True for a name that a held run may have."""
    if type(value) is not str or not 1 <= len(value) <= LONGEST_NAME:
        return False
    return all([sign in LETTERS for sign in value])


def all_forms(lots):
    """The top forms of all lots, in order."""
    forms = []
    for lot in lots:
        forms.extend(list(lot))
    return tuple(forms)


class Change:
    """What a session held ahead of a change, or ahead of an undo, upon older ones (None for none)."""

    def __init__(self, facts, older):
        self.facts = facts
        self.older = older


class Block:
    """What a session was when a block was entered, upon the blocks around it (None for none)."""

    def __init__(self, facts, undoable, redoable, around):
        self.facts = facts
        self.undoable = undoable
        self.redoable = redoable
        self.around = around


class Session:
    """Limits, and what is held: facts are the pair of the lots and of the dict from names to (PROGRAM, IMAGE).

    Facts are never changed, but exchanged for others.
    """

    def __init__(self, limits):
        if not are_limits(limits):
            raise BadLimits(limits)
        self.limits = limits
        self.facts = ((), {})
        self.undoable = None
        self.redoable = None
        self.block = None

    def __eq__(self, other):
        return isinstance(other, Session) and same_data(told_facts(self), told_facts(other))

    def __ne__(self, other):
        return not self == other

    def __len__(self):
        return len(self.facts[0])

    def __enter__(self):
        self.block = Block(self.facts, self.undoable, self.redoable, self.block)
        return self

    def __exit__(self, kind, value, trace):
        self.facts = self.block.facts
        self.undoable = self.block.undoable
        self.redoable = self.block.redoable
        self.block = self.block.around

    def change_to(self, lots, runs):
        """A deed has been done: there is one more change to undo, and nothing to redo."""
        self.undoable = Change(self.facts, self.undoable)
        self.redoable = None
        self.facts = (lots, runs)

    def put_run(self, name, held):
        """A held run gets another image, or is there for the first time; it goes if None is held."""
        runs = dict(self.facts[1])
        if held is None:
            runs.pop(name)
        else:
            runs[name] = held
        self.change_to(self.facts[0], runs)

    def run_at(self, name):
        """The program and the image of a held run."""
        if not is_name(name) or name not in self.facts[1]:
            raise UnknownName(name)
        return self.facts[1][name]

    def need_new(self, name):
        """Raises the error of what is no name for a further held run."""
        if not is_name(name):
            raise BadName(name)
        if name in self.facts[1]:
            raise NameTaken(name)

    def hold(self, text):
        """Puts the lot of a text behind the others."""
        lots = (*self.facts[0], read_data(text))
        try:
            expanded(all_forms(lots), ())
        except NoForm:
            pass
        self.change_to(lots, self.facts[1])

    def drop(self):
        """Takes the last lot away."""
        if self.facts[0] == ():
            raise NothingHeld()
        self.change_to(self.facts[0][:-1], self.facts[1])

    def lots(self):
        """All lots."""
        return self.facts[0]

    def program(self, text):
        """The program of a text."""
        return expanded(all_forms((*self.facts[0], read_data(text))), ())

    def run(self, text, inputs, steps):
        """(ENDING, OUTPUT, COUNT, WEIGHT) of the program of a text."""
        runner = first_runner(self.program(text), inputs, self.limits)
        runner.take_all(steps)
        return runner.told()

    def start(self, name, text, inputs):
        """Holds the run of the program of a text with inputs."""
        self.need_new(name)
        program = self.program(text)
        self.put_run(name, (program, first_image(program, inputs)))

    def go(self, name, steps):
        """(ENDING, OUTPUT, COUNT) of so many further steps of a held run."""
        program, image = self.run_at(name)
        runner = Runner(program, self.limits, standing_of(image))
        runner.take_all(steps)
        self.put_run(name, (program, runner.last_image()) if runner.ending == OPEN else None)
        return runner.told()[:3]

    def saved(self, name):
        """The text of the image of a held run."""
        return image_text(self.run_at(name)[1])

    def load(self, name, text, image):
        """Holds the run of the program of a text that stands at the image of another text."""
        self.need_new(name)
        program = self.program(text)
        told = read_image(image)
        need_fitting(program, told, self.limits)
        self.put_run(name, (program, told))

    def forget(self, name):
        """Lets a held run go."""
        self.run_at(name)
        self.put_run(name, None)

    def held_runs(self):
        """The names of the held runs, ascending."""
        return tuple(sorted(list(self.facts[1])))

    def undo(self):
        """Takes back the last change that has not been undone."""
        if self.undoable is None:
            raise NothingToUndo()
        self.redoable = Change(self.facts, self.redoable)
        self.facts = self.undoable.facts
        self.undoable = self.undoable.older

    def redo(self):
        """Does again the last change that was undone."""
        if self.redoable is None:
            raise NothingToRedo()
        self.undoable = Change(self.facts, self.undoable)
        self.facts = self.redoable.facts
        self.redoable = self.redoable.older


def told_facts(session):
    """All by which sessions are equal, as data."""
    lots, runs = session.facts
    return (session.limits, lots, tuple([(name, *runs[name]) for name in sorted(list(runs))]))
