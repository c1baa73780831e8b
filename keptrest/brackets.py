"""Which tokens may stand where, by the brackets and quotes that are open."""

from keptrest.errors import BadText

MOST_OPEN = 100


class OpenOnes:
    """The brackets and quotes that are open, the innermost one last."""

    def __init__(self):
        self.states = []
        self.ended = 0

    def state(self):
        """What the innermost open one waits for; "top" if none is open."""
        return self.states[-1] if self.states else "top"

    def takes(self, kind):
        """True if a token of this kind may come now."""
        state = self.state()
        if kind == "bad":
            return False
        if kind == "end":
            return state == "top"
        if kind == ")":
            return state in ("empty", "more", "full")
        if kind == ".":
            return state == "more"
        return state != "full"

    def put(self, kind):
        """Goes on behind a token that was taken."""
        if kind == "(":
            self.states.append("empty")
        elif kind == "'":
            self.states.append("quote")
        elif kind == ".":
            self.states[-1] = "tail"
        elif kind == ")":
            self.states.pop()
            self.end_datum()
        elif kind != "end":
            self.end_datum()

    def end_datum(self):
        """A datum has been read; it ends each quote directly around it."""
        while self.state() == "quote":
            self.states.pop()
        if self.state() == "top":
            self.ended += 1
        elif self.state() == "tail":
            self.states[-1] = "full"
        else:
            self.states[-1] = "more"


def check_data(tokens):
    """Raises BadText for the first token that cannot stand in a program."""
    opened = OpenOnes()
    for kind, _, place in tokens:
        if kind == "label" or not opened.takes(kind):
            raise BadText(place)
        if kind in ("(", "'") and len(opened.states) == MOST_OPEN:
            raise BadText(place)
        opened.put(kind)


def is_list_ahead(tokens, at):
    """True if a list with an item begins with the token at this index."""
    return tokens[at][0] == "(" and tokens[at + 1][0] != ")"


def check_label(tokens, at, begun):
    """Raises BadText for a wrong label; gives how many labels have begun now."""
    number, begins = tokens[at][1]
    place = tokens[at][2]
    if not begins:
        if number >= begun:
            raise BadText(place)
        return begun
    if number != begun or not is_list_ahead(tokens, at + 1):
        raise BadText(place)
    return begun + 1


def check_value(tokens):
    """Raises BadText for the first token that cannot stand in a value's text."""
    opened = OpenOnes()
    begun = 0
    for at, (kind, value, place) in enumerate(tokens):
        is_behind = opened.ended == 1
        if not opened.takes(kind) or kind == "'" or is_behind != (kind == "end"):
            raise BadText(place)
        if kind == "label":
            begun = check_label(tokens, at, begun)
        if kind != "label" or not value[1]:
            opened.put(kind)
