"""A desk that answers lines for a session."""

from keptrest.errors import KeptrestError
from keptrest.tokens import are_digits

WRONG = "what"
DONE = "ok"
RUN_STEPS = 10000
MOST_STEPS = 100000
MOST_DIGITS = 6
PLAIN_DEEDS = ("drop", "undo", "redo")


def parts_of_rest(rest, many):
    """So many parts that end at blanks, and what is left behind; what is missing is empty."""
    parts = []
    for _ in range(many):
        part, _, rest = rest.partition(" ")
        parts.append(part)
    return (*parts, rest)


def count_told(text):
    """The number of steps that a COUNT tells; None if it is none."""
    if not are_digits(text) or len(text) > MOST_DIGITS or int(text) > MOST_STEPS:
        return None
    return int(text)


def ending_text(ending):
    """How an ending is written."""
    if ending[0] == "end":
        return "= " + ending[1]
    return "! " + ending[1] if ending[0] == "trap" else "..."


def run_text(told):
    """How a run is written: its outputs and its ending."""
    return "".join([text + " " for text in told[1]]) + ending_text(told[0])


class Desk:
    """Answers lines; the session is used and changed."""

    def __init__(self, session):
        self.session = session

    def answer(self, line):
        """The answer to a line."""
        word, _, rest = line.partition(" ")
        try:
            return self.answer_of(word, rest)
        except KeptrestError as error:
            return "error " + type(error).__name__.lower()

    def answer_of(self, word, rest):
        """Does what a word wants with what stands behind it, and tells the answer."""
        if word in PLAIN_DEEDS:
            return self.done_plainly(word) if rest == "" else WRONG
        if word == "hold":
            self.session.hold(rest)
            return DONE
        if word == "run":
            return run_text(self.session.run(rest, (), RUN_STEPS))
        return self.done_by_name(word, rest)

    def done_plainly(self, word):
        """One of the deeds without parts."""
        if word == "drop":
            self.session.drop()
        elif word == "undo":
            self.session.undo()
        else:
            self.session.redo()
        return DONE

    def done_by_name(self, word, rest):
        """What is wanted of a held run."""
        name, text = parts_of_rest(rest, 1)
        if name == "":
            return WRONG
        if word == "start":
            self.session.start(name, text, ())
            return DONE
        if word == "load":
            return self.loaded(name, text)
        if word == "go":
            return self.gone(name, text)
        if word not in ("save", "forget") or rest != name:
            return WRONG
        if word == "save":
            return self.session.saved(name)
        self.session.forget(name)
        return DONE

    def loaded(self, name, rest):
        image, text = parts_of_rest(rest, 1)
        if image == "":
            return WRONG
        self.session.load(name, text, image)
        return DONE

    def gone(self, name, rest):
        steps = count_told(rest)
        return WRONG if steps is None else run_text(self.session.go(name, steps))
