"""All errors of the program, with their fields."""


class KeptrestError(ValueError):
    """Any error that the program raises."""


class BadText(KeptrestError):
    """A text is wrong at a place."""

    def __init__(self, place):
        self.place = place


class BadForm(KeptrestError):
    """A form of a program is wrong."""

    def __init__(self, path):
        self.path = path


class NoForm(KeptrestError):
    """A program has no define and no expression."""


class TwiceDefined(KeptrestError):
    """A word has two top definitions."""

    def __init__(self, word):
        self.word = word


class BadWord(KeptrestError):
    """A word may not be defined."""

    def __init__(self, word):
        self.word = word


class BadRule(KeptrestError):
    """A macro is against the rules of macros."""

    def __init__(self, path):
        self.path = path


class NoRule(KeptrestError):
    """No rule of a macro matches a use."""

    def __init__(self, path):
        self.path = path


class Uneven(KeptrestError):
    """Names in a repeated item have unlike numbers of turns."""

    def __init__(self, path):
        self.path = path


class UnknownWord(KeptrestError):
    """A word has no meaning."""

    def __init__(self, word, path):
        self.word = word
        self.path = path


class Arguments(KeptrestError):
    """A prim word has a wrong number of items behind it."""

    def __init__(self, word, path):
        self.word = word
        self.path = path


class TooMany(KeptrestError):
    """There are too many of something."""

    def __init__(self, what):
        self.what = what


class TooGreat(KeptrestError):
    """Something is too great."""

    def __init__(self, what):
        self.what = what


class NotThere(KeptrestError):
    """Nothing stands at a path."""

    def __init__(self, path):
        self.path = path


class OutOfRange(KeptrestError):
    """A number is not in its range."""

    def __init__(self, value):
        self.value = value


class NoRoad(KeptrestError):
    """A road leads nowhere at one of its integers."""

    def __init__(self, number):
        self.number = number


class NoPoint(KeptrestError):
    """A place has no point in a code."""

    def __init__(self, place):
        self.place = place


class NotReached(KeptrestError):
    """An address is not reached."""

    def __init__(self, address):
        self.address = address


class EmptyRead(KeptrestError):
    """A slot is read that may be empty."""

    def __init__(self, point):
        self.point = point


class UnknownName(KeptrestError):
    """There is no such name."""

    def __init__(self, name):
        self.name = name


class NoImage(KeptrestError):
    """Something is no image."""


class BadLimits(KeptrestError):
    """Limits are out of range."""

    def __init__(self, value):
        self.value = value


class BadName(KeptrestError):
    """A name may not be given."""

    def __init__(self, name):
        self.name = name


class NameTaken(KeptrestError):
    """A name is given already."""

    def __init__(self, name):
        self.name = name


class NothingHeld(KeptrestError):
    """Nothing is held."""


class NothingToUndo(KeptrestError):
    """There is nothing to undo."""


class NothingToRedo(KeptrestError):
    """There is nothing to redo."""


class Open(KeptrestError):
    """A question stays open."""
