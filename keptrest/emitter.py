"""Writes core programs that are made of other ones, node by node, with the places from which they come."""

from keptrest.errors import TooGreat
from keptrest.heads import built, deepest, head_of, places_of_heads, plain_numbers
from keptrest.terms import all_binders, parts_of

MOST_NODES = 2000
DEEPEST = 200


def var(number):
    return ("var", number)


def call(number, *atoms):
    """A call of the function that a name means."""
    return ("call", ("var", number), atoms)


def function(params, body):
    return ("fn", params, None, body)


def sourced(place, term):
    """A term that belongs to a place of the other program."""
    return ("sourced", place, term)


class Emitter:
    """Does tasks, the first one first, each of which emits nodes or gives further tasks.

    A task is (WORD, ..) as its doings have them, or ("head", HEAD, PLACE) or ("term", TERM), PLACE being None for
    a node that belongs to no place.
    """

    def __init__(self, program, doings):
        self.doings = doings
        self.numbers = len(all_binders(program))
        self.emitted = []
        self.tasks = []

    def new_numbers(self, many):
        """New numbers, unlike all others."""
        self.numbers += many
        return list(range(self.numbers - many, self.numbers))

    def emit(self, head, place):
        self.emitted.append((head, place))
        if len(self.emitted) > MOST_NODES:
            raise TooGreat("nodes")

    def emit_term(self, term):
        """Emits a whole term."""
        waiting = [term]
        while waiting:
            part = waiting.pop()
            place = None
            if part[0] == "sourced":
                _, place, part = part
            self.emit(head_of(part), place)
            waiting.extend(parts_of(part)[::-1])

    def do_all(self, tasks):
        """Does tasks and all that comes of them."""
        self.tasks = tasks[::-1]
        while self.tasks:
            word, *told = self.tasks.pop()
            if word == "head":
                self.emit(*told)
            elif word == "term":
                self.emit_term(*told)
            else:
                doing = self.doings[word]
                self.tasks.extend(doing(self, *told)[::-1])

    def program_and_origins(self):
        """The plainly numbered program, and the pairs (its place, place in the other program)."""
        if deepest(self.emitted) > DEEPEST:
            raise TooGreat("depth")
        origins = []
        for place, (_, source) in zip(places_of_heads(self.emitted), self.emitted):
            if source is not None:
                origins.append((place, source))
        return built(self.emitted, plain_numbers(self.emitted)), tuple(origins)
