"""Values as texts, with labels for pairs that are shared."""

from keptrest.brackets import check_value
from keptrest.datatext import constant_text
from keptrest.kinds import is_pair, is_thing
from keptrest.tokens import tokens_of


def met_pairs(store, value):
    """The addresses of the pairs that are met from a value, in their order."""
    met = {}
    waiting = [value]
    while waiting:
        part = waiting.pop()
        if is_pair(store, part) and part[1] not in met:
            met[part[1]] = True
            thing = store[part[1]]
            waiting.append(thing[2])
            waiting.append(thing[1])
    return tuple(list(met))


def met_again(store, value):
    """The addresses of the pairs that are met more than once, in their order."""
    met = met_pairs(store, value)
    times = {address: 0 for address in met}
    parts = [value]
    for address in met:
        parts.extend(store[address][1:])
    for part in parts:
        if is_pair(store, part):
            times[part[1]] += 1
    return tuple([address for address in met if times[address] > 1])


class Writer:
    """Writes one value; what waits is strings and (PLACE, VALUE)."""

    def __init__(self, store, value):
        again = met_again(store, value)
        self.store = store
        self.labels = {address: k for k, address in enumerate(again)}
        self.begun = {}
        self.written = []
        self.waiting = [("value", value)]

    def write_value(self, value):
        """A value that stands by itself."""
        if not is_thing(value):
            self.written.append(constant_text(value))
        elif not is_pair(self.store, value):
            self.written.append("#function")
        else:
            self.write_pair(value[1])

    def write_pair(self, address):
        """A pair that does not go on a row of pairs."""
        label = self.labels.get(address)
        if address in self.begun:
            self.written.append(f"@{label}")
            return
        if label is not None:
            self.begun[address] = True
            self.written.append(f"@{label}=")
        self.written.append("(")
        self.go_into(address)

    def go_into(self, address):
        """The first value of a pair, and what comes behind it."""
        thing = self.store[address]
        self.waiting.append(("row", thing[2]))
        self.waiting.append(("value", thing[1]))

    def write_row(self, value):
        """The second value of a pair whose first one has been written."""
        if value == ():
            self.written.append(")")
        elif is_pair(self.store, value) and value[1] not in self.labels:
            self.written.append(" ")
            self.go_into(value[1])
        else:
            self.written.append(" . ")
            self.waiting.append(("end", ()))
            self.waiting.append(("value", value))

    def whole(self):
        while self.waiting:
            place, value = self.waiting.pop()
            if place == "value":
                self.write_value(value)
            else:
                self.write_row(value)
        return "".join(self.written)


def value_text(store, value):
    """The text of a value."""
    return Writer(store, value).whole()


class Builder:
    """Makes pairs, as lists of two values, from the tokens of a right text."""

    def __init__(self):
        self.pairs = []
        self.labels = []
        self.opened = []
        self.value = None

    def new_pair(self):
        """A pair whose values are filled in later."""
        self.pairs.append([(), ()])
        return len(self.pairs) - 1

    def begin_list(self, has_label):
        """Makes the first pair at once: a label may be used within its list."""
        address = self.new_pair()
        if has_label:
            self.labels.append(address)
        self.opened.append({"first": address, "last": None, "tail": False})

    def end_list(self):
        ended = self.opened.pop()
        self.take(("thing", ended["first"]))

    def take(self, value):
        """Goes on with a value that has been read."""
        if not self.opened:
            self.value = value
            return
        around = self.opened[-1]
        last = around["last"]
        if around["tail"]:
            self.pairs[last][1] = value
            return
        address = around["first"]
        if last is not None:
            address = self.new_pair()
            self.pairs[last][1] = ("thing", address)
        self.pairs[address][0] = value
        around["last"] = address


def build(tokens):
    """The builder that has gone through the tokens of a right text."""
    builder = Builder()
    before = [("end", None, None)] + tokens
    for at, (kind, value, _) in enumerate(tokens):
        if kind == "(":
            if tokens[at + 1][0] == ")":
                continue
            builder.begin_list(before[at][0] == "label" and before[at][1][1])
        elif kind == ")":
            if before[at][0] == "(":
                builder.take(())
            else:
                builder.end_list()
        elif kind == ".":
            builder.opened[-1]["tail"] = True
        elif kind == "datum":
            builder.take(value)
        elif kind == "label" and not value[1]:
            builder.take(("thing", builder.labels[value[0]]))
    return builder


def read_value(text):
    """The store and the value of a text of one value."""
    tokens = tokens_of(text)
    check_value(tokens)
    builder = build(tokens)
    raw = [("pair", pair[0], pair[1]) for pair in builder.pairs]
    met = met_pairs(raw, builder.value)
    addresses = {address: k for k, address in enumerate(met)}

    def moved(value):
        return ("thing", addresses[value[1]]) if is_thing(value) else value

    store = [("pair", moved(raw[address][1]), moved(raw[address][2])) for address in met]
    return (tuple(store), moved(builder.value))
