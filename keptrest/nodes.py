"""Data with keys and paths, as rules and expansion use them.

Each node tells that it has at most so many data and is at most so deep. To count a list again whenever it is made
would take too long: so it is measured only where that may matter.
"""

UNKNOWN = 10 ** 9


class Word:
    """A word: its key, the word to which it goes back, its path for errors, its spot in the program."""

    def __init__(self, key, letters, path, spot):
        self.key = key
        self.letters = letters
        self.path = path
        self.spot = spot
        self.most = 1
        self.deepest = 0


class Fixed:
    """A number, a truth or ()."""

    def __init__(self, value, path):
        self.value = value
        self.path = path
        self.most = 1
        self.deepest = 0


class Row:
    """A list of at least one item, with a tail that is no list, that is not greater than another thing.

    The last two attributes keep how the list is cut as a pattern and as a template, once it has been used so.
    """

    def __init__(self, parts, tail, path, greater):
        self.parts = parts
        self.tail = tail
        self.path = path
        self.most = greater.most
        self.deepest = greater.deepest
        self.is_measured = False
        self.pattern_parts = None
        self.template_parts = None


class Unmeasured:
    """What any list is not greater than."""

    def __init__(self):
        self.most = UNKNOWN
        self.deepest = UNKNOWN


def measure(node):
    """Lets a node tell just how many data it has and how deep it is."""
    if not isinstance(node, Row) or node.is_measured:
        return
    rows = [part for part in node.parts if part.deepest]
    for row in rows:
        measure(row)
    node.most = 1 + len(node.parts) - len(rows) + sum([row.most for row in rows]) + (0 if is_nothing(node.tail) else 1)
    node.deepest = 1 + max([row.deepest for row in rows], default=0)
    node.is_measured = True


def is_nothing(node):
    """True for ()."""
    return isinstance(node, Fixed) and node.value == ()


def is_spelled(node, letters):
    """True for a word that goes back to this one."""
    return isinstance(node, Word) and node.letters == letters


def node_of(datum, path):
    """The node of a plain datum: keys are the words themselves."""
    if type(datum) is tuple and len(datum) > 0:
        if datum[0] == "name":
            return Word(datum[1], datum[1], path, path)
        parts = tuple([node_of(item, path + (k,)) for k, item in enumerate(datum[1])])
        tail_path = path if datum[2] == () else path + (len(parts),)
        return Row(parts, node_of(datum[2], tail_path), path, Unmeasured())
    return Fixed(datum, path)


def datum_of(node):
    """The plain datum of a node."""
    if isinstance(node, Word):
        return ("name", node.letters)
    if isinstance(node, Fixed):
        return node.value
    return ("list", tuple([datum_of(part) for part in node.parts]), datum_of(node.tail))


def parts_of_node(node):
    """The items of a node and its tail; a node that is no list has none and is its own tail."""
    if isinstance(node, Row):
        return node.parts, node.tail
    return (), node


def row_of(parts, tail, path, greater):
    """The list of these items that goes on with a tail, which may be a list itself.

    A () at its end has the path of this list, whatever list it ended before. The list is not greater than another
    thing.
    """
    if not parts:
        return tail
    if isinstance(tail, Row):
        parts = (*parts, *tail.parts)
        tail = tail.tail
    if is_nothing(tail) and tail.path != path:
        tail = Fixed((), path)
    return Row(tuple(parts), tail, path, greater)


def words_in(node):
    """All words in a node, in writing order."""
    words = []
    waiting = [node]
    while waiting:
        part = waiting.pop()
        if isinstance(part, Word):
            words.append(part)
        elif isinstance(part, Row):
            waiting.append(part.tail)
            waiting.extend(part.parts[::-1])
    return words
