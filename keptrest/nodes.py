"""Data with keys and paths, as rules and expansion use them.

To count a list again whenever it is made would take too long. So each list has a bound, that it is not greater
than, and it is measured only where that may matter.
"""

UNKNOWN = 10 ** 9


class Word:
    """A word: its key, the word to which it goes back, its path for errors, its spot in the program."""

    def __init__(self, key, letters, path, spot):
        self.key = key
        self.letters = letters
        self.path = path
        self.spot = spot
        self.is_row = False


class Fixed:
    """A number, a truth or ()."""

    def __init__(self, value, path):
        self.value = value
        self.path = path
        self.is_row = False


class Bound:
    """How many data lists have at most, and how deep they are at most."""

    def __init__(self, most, deepest):
        self.most = most
        self.deepest = deepest


class Row:
    """A list of at least one item, with a tail that is no list.

    The last two attributes keep how the list is cut as a pattern and as a template, once it has been used so.
    """

    def __init__(self, parts, tail, path, bound):
        self.parts = parts
        self.tail = tail
        self.path = path
        self.bound = bound
        self.is_row = True
        self.is_measured = False
        self.pattern_parts = None
        self.template_parts = None


def measure(node):
    """Gives a list, and all in it, a bound that tells just how great it is; gives the bound of any node."""
    if not node.is_row:
        return Bound(1, 0)
    if not node.is_measured:
        most = 1 + len(node.parts) + (0 if is_nothing(node.tail) else 1)
        deepest = 0
        for part in node.parts:
            if part.is_row:
                bound = measure(part)
                most += bound.most - 1
                deepest = max(deepest, bound.deepest)
        node.bound = Bound(most, deepest + 1)
        node.is_measured = True
    return node.bound


def is_nothing(node):
    """True for ()."""
    return isinstance(node, Fixed) and node.value == ()


def is_spelled(node, letters):
    """True for a word that goes back to this one."""
    return isinstance(node, Word) and node.letters == letters


def node_of(datum, path):
    """The node of a plain datum: keys are the words themselves."""
    if type(datum) is tuple and len(datum) > 0:
        if datum[0] == "name":
            return Word(datum[1], datum[1], path, path)
        parts = tuple([node_of(item, path + (k,)) for k, item in enumerate(datum[1])])
        tail_path = path if datum[2] == () else path + (len(parts),)
        return Row(parts, node_of(datum[2], tail_path), path, Bound(UNKNOWN, UNKNOWN))
    return Fixed(datum, path)


def datum_of(node):
    """The plain datum of a node."""
    if isinstance(node, Word):
        return ("name", node.letters)
    if isinstance(node, Fixed):
        return node.value
    return ("list", tuple([datum_of(part) for part in node.parts]), datum_of(node.tail))


def parts_of_node(node):
    """The items of a node and its tail; a node that is no list has none and is its own tail."""
    if isinstance(node, Row):
        return node.parts, node.tail
    return (), node


def row_of(parts, tail, path, bound):
    """The list of these items that goes on with a tail, which may be a list itself.

    A () at its end has the path of this list, whatever list it ended before.
    """
    if not parts:
        return tail
    if tail.is_row:
        parts = (*parts, *tail.parts)
        tail = tail.tail
    if tail.path != path and is_nothing(tail):
        tail = Fixed((), path)
    return Row(tuple(parts), tail, path, bound)


def words_in(node):
    """All words in a node, in writing order."""
    words = []
    waiting = [node]
    while waiting:
        part = waiting.pop()
        if isinstance(part, Word):
            words.append(part)
        elif isinstance(part, Row):
            waiting.append(part.tail)
            waiting.extend(part.parts[::-1])
    return words
