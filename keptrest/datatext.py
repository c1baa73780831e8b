"""Data as texts: reading, writing, paths and places."""

from keptrest.brackets import check_data
from keptrest.errors import NotThere, OutOfRange, TooGreat
from keptrest.sameness import is_integer
from keptrest.tokens import is_good_word, tokens_of

LONGEST_TEXT = 100000
BELOW_AMOUNT = 10 ** 30
DEEPEST_LIST = 100
NARROWEST = 20
WIDEST = 200
QUOTE = ("name", "quote")


def is_word(value):
    """True if the value is a word."""
    return type(value) is str and is_good_word(value)


def is_constant_datum(value):
    """True for a datum that is no list: a number, a truth, () or a name."""
    if is_integer(value):
        return abs(value) < BELOW_AMOUNT
    if type(value) is bool or value == ():
        return True
    return type(value) is tuple and len(value) == 2 and value[0] == "name" and is_word(value[1])


def is_list_node(value):
    """True if the value is a list but for its items, which are not looked at."""
    if not (type(value) is tuple and len(value) == 3 and value[0] == "list"):
        return False
    return type(value[1]) is tuple and value[1] != () and is_constant_datum(value[2])


def is_datum(value):
    """True if the value is a datum."""
    waiting = [(value, 1)]
    while waiting:
        part, depth = waiting.pop()
        if is_constant_datum(part):
            continue
        if depth > DEEPEST_LIST or not is_list_node(part):
            return False
        for item in part[1]:
            waiting.append((item, depth + 1))
    return True


class Node:
    """A datum with its place in a text and the nodes of its items and its tail."""

    def __init__(self, datum, place, parts):
        self.datum = datum
        self.place = place
        self.parts = parts


class OpenList:
    """A list whose bracket is open: what has been read of it."""

    def __init__(self, place):
        self.place = place
        self.parts = []
        self.tail = None
        self.waits_for_tail = False

    def take(self, node):
        """Goes on with an item or with the tail."""
        if self.waits_for_tail:
            self.tail = node
        else:
            self.parts.append(node)

    def closed(self):
        """The node of the whole list."""
        parts = list(self.parts)
        if not parts:
            return Node((), self.place, ())
        tail = ()
        if self.tail is not None:
            tail = self.tail.datum
            if is_list_node(tail):
                tail = tail[2]
                parts.extend(list(self.tail.parts))
            elif tail != ():
                parts.append(self.tail)
        many = len(parts) if tail == () else len(parts) - 1
        data = tuple([part.datum for part in parts[:many]])
        return Node(("list", data, tail), self.place, tuple(parts))


class OpenQuote:
    """A quote sign whose datum has not been read yet."""

    def __init__(self, place):
        self.place = place

    def closed(self, node):
        datum = ("list", (QUOTE, node.datum), ())
        return Node(datum, self.place, (Node(QUOTE, self.place, ()), node))


def end_datum(opened, program, node):
    """Puts a datum that has been read where it belongs."""
    while opened and isinstance(opened[-1], OpenQuote):
        quote = opened.pop()
        node = quote.closed(node)
    if opened:
        opened[-1].take(node)
    else:
        program.append(node)


def read_nodes(text):
    """The nodes of a text's data."""
    if len(text) > LONGEST_TEXT:
        raise TooGreat("text")
    tokens = tokens_of(text)
    check_data(tokens)
    program = []
    opened = []
    for kind, value, place in tokens:
        if kind == "(":
            opened.append(OpenList(place))
        elif kind == "'":
            opened.append(OpenQuote(place))
        elif kind == ".":
            around = opened[-1]
            around.waits_for_tail = True
        elif kind == ")":
            ended = opened.pop()
            end_datum(opened, program, ended.closed())
        elif kind != "end":
            end_datum(opened, program, Node(value, place, ()))
    return program


def read_data(text):
    """The data of a text."""
    return tuple([node.datum for node in read_nodes(text)])


def constant_text(constant):
    """The plain text of a datum that is no list."""
    if constant is True:
        return "#yes"
    if constant is False:
        return "#no"
    if constant == ():
        return "()"
    if is_integer(constant):
        return str(constant)
    return constant[1]


def plain_pieces(datum):
    """What a list's plain text consists of: strings, and items as (item,)."""
    pieces = ["("]
    for k, item in enumerate(datum[1]):
        if k > 0:
            pieces.append(" ")
        pieces.append((item,))
    if datum[2] != ():
        pieces.append(" . " + constant_text(datum[2]))
    pieces.append(")")
    return pieces


def short_text(datum, room):
    """The plain text of a datum; None if it is longer than a room that is no None."""
    written = []
    length = 0
    waiting = [(datum,)]
    while waiting:
        piece = waiting.pop()
        if isinstance(piece, tuple) and is_list_node(piece[0]):
            waiting.extend(plain_pieces(piece[0])[::-1])
            continue
        text = constant_text(piece[0]) if isinstance(piece, tuple) else piece
        written.append(text)
        length += len(text)
        if room is not None and length > room:
            return None
    return "".join(written)


def datum_text(datum):
    """The plain text of a datum."""
    return short_text(datum, None)


def broken_pieces(datum, column, brackets):
    """A list in several rows: strings, and items as (item, column, brackets)."""
    new_row = "\n" + " " * column
    last = len(datum[1]) - 1
    pieces = ["("]
    for k, item in enumerate(datum[1]):
        if k > 0:
            pieces.append(new_row)
        ends = k == last and datum[2] == ()
        pieces.append((item, column + 1, brackets + 1 if ends else 0))
    if datum[2] != ():
        pieces.append(new_row + ". " + constant_text(datum[2]))
    pieces.append(")")
    return pieces


def laid_out(datum, width):
    """The text of one datum of a program, laid out for a width."""
    written = []
    waiting = [(datum, 1, 0)]
    while waiting:
        piece = waiting.pop()
        if isinstance(piece, str):
            written.append(piece)
            continue
        part, column, brackets = piece
        if not is_list_node(part):
            written.append(constant_text(part))
            continue
        text = short_text(part, width - brackets - column + 1)
        if text is None:
            waiting.extend(broken_pieces(part, column, brackets)[::-1])
        else:
            written.append(text)
    return "".join(written)


def data_text(data, width):
    """The text of a tuple of data, laid out for a width."""
    if not NARROWEST <= width <= WIDEST:
        raise OutOfRange(width)
    return "\n".join([laid_out(datum, width) for datum in data])


def parts_of_datum(datum):
    """The items of a datum and its tail behind them if it is not ()."""
    if not is_list_node(datum):
        return ()
    if datum[2] == ():
        return datum[1]
    return (*datum[1], datum[2])


def datum_at(data, path):
    """The datum at a path; the whole tuple for ()."""
    parts = data
    datum = data
    for number in path:
        if not 0 <= number < len(parts):
            raise NotThere(path)
        datum = parts[number]
        parts = parts_of_datum(datum)
    return datum


def place_of(text, path):
    """The place in a text at which the datum at a path begins."""
    parts = read_nodes(text)
    place = None
    for number in path:
        if not 0 <= number < len(parts):
            raise NotThere(path)
        place = parts[number].place
        parts = parts[number].parts
    if place is None:
        raise NotThere(path)
    return place
