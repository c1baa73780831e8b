"""Keys, environments and what keys mean in them."""

from keptrest.prims import is_prim

BASE_WORDS = ("quote", "if", "fn", "let", "rec", "set", "seq", "macros", "define", "macro")


class Scope:
    """An environment: one key with its meaning, and the environment around it (None for none)."""

    def __init__(self, key, meaning, around):
        self.key = key
        self.meant = meaning
        self.around = around


class Macro:
    """A macro: its number, its literals (a dict of keys), its rules and its environment."""

    def __init__(self, number, env):
        self.number = number
        self.env = env
        self.literals = {}
        self.rules = []


def prim_of(word):
    """The name of the prim that a word stands for; None if it is no prim word."""
    name = word.replace("-", " ")
    return name if is_prim(name) else None


def is_base(key):
    """True for the key of a base word; an alias is none."""
    return type(key) is str and (key in BASE_WORDS or prim_of(key) is not None)


class Keys:
    """The top definitions and the aliases of an expansion.

    A meaning is ("name", NUMBER), ("macro", NUMBER), ("base", WORD) or ("none", WORD).
    """

    def __init__(self):
        self.top = {}
        self.aliases = []

    def new_alias(self, key, env):
        """An alias of a key that stands in the template of a macro with this environment."""
        self.aliases.append((key, env))
        return len(self.aliases) - 1

    def meaning(self, key, env):
        """What a key means in an environment."""
        while True:
            scope = env
            while scope is not None:
                if scope.key == key:
                    return scope.meant
                scope = scope.around
            if key in self.top:
                return self.top[key]
            if type(key) is str:
                return ("base" if is_base(key) else "none", key)
            key, env = self.aliases[key]
