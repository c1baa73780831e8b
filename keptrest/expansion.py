"""The state of an expansion: what it has emitted, what it still has to do."""

from keptrest.errors import TooMany
from keptrest.macros import use_macro
from keptrest.meanings import Keys, Macro, Scope
from keptrest.nodes import Row, Word

MOST_USES = 1000


class Fates:
    """The fates of the words of a program, by the spots at which they stand."""

    def __init__(self):
        self.of_spot = {}

    def note(self, word, fate):
        """Notes a fate of a word, or of the word of the program that it came from."""
        if word.spot not in self.of_spot:
            self.of_spot[word.spot] = {}
        self.of_spot[word.spot][fate] = True


class Expansion:
    """Emits the nodes of a core program, in writing order, as pairs (HEAD, PATH).

    A head is a node without its parts, as in heads.
    """

    def __init__(self):
        self.known = Keys()
        self.fates = Fates()
        self.macros = []
        self.uses = 0
        self.numbers = 0
        self.emitted = []
        self.tasks = []

    def emit(self, head, path):
        self.emitted.append((head, path))

    def do_first(self, tasks):
        """Puts tasks ahead of all that still waits, the first one first."""
        self.tasks.extend(tasks[::-1])

    def new_number(self):
        """A number that stands for a name until the whole program is numbered."""
        self.numbers += 1
        return self.numbers - 1

    def new_macro(self, env):
        macro = Macro(len(self.macros), env)
        self.macros.append(macro)
        return macro

    def bind(self, words, env):
        """New numbers for words, and the environment in which they mean these."""
        numbers = []
        for word in words:
            number = self.new_number()
            numbers.append(number)
            self.fates.note(word, ("binds", number))
            env = Scope(word.key, ("name", number), env)
        return numbers, env

    def looked_up(self, word, env):
        """The meaning of a word; that it means a base word or a macro is noted."""
        meaning = self.known.meaning(word.key, env)
        if meaning[0] in ("base", "macro"):
            self.fates.note(word, (meaning[0],))
        return meaning

    def head_meaning(self, node, env):
        """The meaning of the first word of a list; ("none", ()) where there is no such word."""
        if isinstance(node, Row) and isinstance(node.parts[0], Word):
            return self.looked_up(node.parts[0], env)
        return ("none", ())

    def used(self, number, node, env):
        """What a use of the macro with a number gives."""
        self.uses += 1
        if self.uses > MOST_USES:
            raise TooMany("uses")
        return use_macro(self.macros[number], node, env, self.known, self.fates)
