"""The machine with a stack in one block once more, slowly and straight from the words of the document."""

from keptrest.prims import do_prim
from keptrest.progtext import value_text


class Ended(Exception):
    def __init__(self, *ending):
        self.ending = ending


def is_at(word):
    return type(word) is tuple and word[:1] == ("at",)


def size(header):
    return header[3] + 1 if header[1] in ("fn", "kept") else header[3]


def headers(heap):
    found, n = [], 0
    while n < len(heap):
        found.append(n)
        n += 1 + heap[n][3]
    return found


def used(heap):
    return sum(size(heap[n]) for n in headers(heap))


def parts(heap, n):
    return list(heap[n + 1:n + 1 + heap[n][3]])


def met(roots, heap):
    order = []
    rows = [roots]
    while rows:
        for word in rows.pop(0):
            if is_at(word) and word[1] not in order:
                order.append(word[1])
                rows.append(parts(heap, word[1]))
    return order


def words_reached(roots, heap):
    return sum(size(heap[n]) for n in met(roots, heap))


def as_values(words, heap):
    """The words as values of a store that has a thing for each cell."""
    index = {n: k for k, n in enumerate(headers(heap))}

    def value(word):
        return ("thing", index[word[1]]) if is_at(word) else word

    store = [("pair", *map(value, parts(heap, n))) if heap[n][1] == "pair" else ("fn", (), ()) for n in index]
    return [value(word) for word in words], store, list(index)


class Machine:
    def __init__(self, code, limits, state):
        self.rows, _, entries, _ = code
        self.entries = {entry[0]: entry for entry in entries}
        self.room, self.deep, self.schedule = limits
        self.point, self.value, window, stack, self.winds, heap, self.inputs, output, self.made = state
        self.window, self.stack, self.heap, self.output = list(window), list(stack), list(heap), list(output)
        self.collections = 0
        self.making_words = []
        self.temps = []

    def state(self):
        return (self.point, self.value, tuple(self.window), tuple(self.stack), self.winds, tuple(self.heap),
                self.inputs, tuple(self.output), self.made)

    def make(self, kind, data, items, p):
        """Items are taken from temps, which are led when cells move."""
        header = ("cell", kind, data, len(items))
        w = size(header)
        roots = self.named + self.stack_before + [self.winds_before] + self.fresh
        self.making_words.append((p, words_reached(roots, self.heap), w))
        if self.made in self.schedule or used(self.heap) + w > self.room:
            self.collections += 1
            order = met(roots, self.heap)
            places, heap = {}, []
            for n in order:
                places[n] = len(heap)
                heap += [self.heap[n]] + parts(self.heap, n)

            def led(word):
                return ("at", places[word[1]]) if is_at(word) and word[1] in places else word

            self.heap = [led(word) for word in heap]
            self.named, self.stack_before, self.fresh, self.stack, self.window, self.temps, items = [
                [led(word) for word in row] for row in
                (self.named, self.stack_before, self.fresh, self.stack, self.window, self.temps, items)]
            self.winds, self.winds_before, self.value = map(led, (self.winds, self.winds_before, self.value))
        if used(self.heap) + w > self.room:
            raise Ended("trap", "memory", p)
        address = ("at", len(self.heap))
        self.heap += [header] + list(items)
        self.made += 1
        self.fresh.append(address)
        return address

    def step(self):
        self.start = self.point
        row = ("back",) if self.point == "back" else self.rows[self.point]
        self.fresh, self.named, self.temps = [], [], []
        self.stack_before, self.winds_before = list(self.stack), self.winds
        getattr(self, "row_" + row[0])(*row[1:])

    def slots(self, slots):
        return [self.window[i] for i in slots]

    def row_load(self, c, after):
        self.value, self.point = c, after

    def row_from(self, i, after):
        self.value, self.point = self.window[i], after

    def row_to(self, i, after):
        self.window += [("gone",)] * (i + 1 - len(self.window))
        self.window[i] = self.value
        self.point = after

    def box(self, i):
        word = self.window[i]
        if not is_at(word) or self.heap[word[1]][1] != "box":
            raise Ended("broken", self.start)
        return word[1]

    def row_open(self, i, after):
        self.value, self.point = self.heap[self.box(i) + 1], after

    def row_fill(self, i, after):
        self.heap[self.box(i) + 1] = self.value
        self.value, self.point = (), after

    def text(self, word):
        values, store, _ = as_values([word], self.heap)
        return value_text(store, values[0])

    def row_prim(self, name, p, slots, after):
        words = self.slots(slots)
        self.point = after
        if name == "show":
            self.output.append(self.text(words[0]))
            self.value = ()
        elif name == "ask":
            if not self.inputs:
                raise Ended("trap", "input", p)
            self.value, self.inputs = self.inputs[0], self.inputs[1:]
        elif name == "more":
            self.value = self.inputs != ()
        else:
            values, store, numbers = as_values(words, self.heap)
            told = do_prim(name, values, store)
            if told[0] == "trap":
                raise Ended("trap", told[1], p)
            if told[0] == "put":
                self.heap[words[0][1] + (1 if name == "put first" else 2)] = words[1]
                self.value = ()
            else:
                value = told[1]
                self.value = ("at", numbers[value[1]]) if type(value) is tuple and value[:1] == ("thing",) else value

    def row_make(self, what, p, slots, live, after):
        items = self.slots(slots)
        self.named = items + self.slots(live)
        address = self.make(what[0], p if what == ("fn",) else None, items, p)
        self.value, self.point = address, after
        for i in range(len(self.window)):
            if i not in live:
                self.window[i] = ("gone",)

    def row_test(self, yes, no):
        self.point = no if self.value is False else yes

    def row_push(self, r, slots, after):
        self.stack += self.slots(slots) + [("point", r)]
        self.point = after

    def row_go(self, t, slots):
        self.window, self.point = self.slots(slots), t

    def row_call(self, p, slots):
        self.named = self.slots(slots)
        self.call(list(self.named), p)

    def row_known(self, p, q, slots):
        self.named = self.slots(slots)
        n = self.named[0]
        if not is_at(n) or self.heap[n[1]][1:3] != ("fn", q):
            raise Ended("broken", self.start)
        self.temps = list(self.named)
        self.function(p)

    def row_keep(self, p, i):
        self.named = [self.window[i]]
        self.temps = [self.window[i]]
        kept = self.make("kept", None, [self.winds] + self.stack, p)
        self.call([self.temps[0], kept], p)

    def row_wind(self, p, slots):
        self.named = self.slots(slots)
        self.stack += self.named + [("point", "began", p)]
        self.call([self.named[0]], p)

    def row_stop(self, word, p):
        raise Ended("trap", word, p)

    def call(self, words, p):
        self.temps = words
        kind = self.heap[words[0][1]][1] if is_at(words[0]) else None
        if kind == "fn":
            _, k, rest, _, _, _ = self.entries[self.heap[words[0][1]][2]]
            many = len(words) - 1
            if many < k or (many > k and not rest):
                raise Ended("trap", "count", p)
            self.function(p)
        elif kind == "kept":
            if len(words) != 2:
                raise Ended("trap", "count", p)
            self.stack = []
            self.go_on(words[0], words[1], p)
        else:
            raise Ended("trap", "no function", p)

    def function(self, p):
        _, k, rest, boxed, picks, point = self.entries[self.heap[self.temps[0][1]][2]]
        if len(self.stack) > self.deep:
            raise Ended("trap", "deep", p)
        if rest:
            behind = ()
            while len(self.temps) > k + 1:
                pair = self.make("pair", None, [self.temps[-1], behind], p)
                self.temps.pop()
                behind = pair
            self.temps.append(behind)
        for j, is_boxed in enumerate(boxed):
            if is_boxed:
                box = self.make("box", None, [self.temps[j + 1]], p)
                self.temps[j + 1] = box
        own = parts(self.heap, self.temps[0][1])
        self.window = [own[j] if word == "own" else self.temps[j + 1] for word, j in picks]
        self.value, self.point = ("none",), point

    def ends(self, winds):
        found = [winds]
        while found[-1] != ():
            found.append(self.heap[found[-1][1] + 3])
        return found

    def go_on(self, kept, v, p):
        o, w = self.winds, self.heap[kept[1] + 1]
        if o == w:
            self.stack = parts(self.heap, kept[1])[1:]
            self.value, self.window, self.point = v, [], "back"
        elif o not in self.ends(w):
            cell = o[1]
            self.winds = self.heap[cell + 3]
            self.stack += [kept, v, ("point", "leaving", p)]
            self.call([self.heap[cell + 2]], self.heap[cell][2])
        else:
            ends = self.ends(w)
            wind = ends[ends.index(o) - 1]
            self.stack += [kept, v, wind, ("point", "entering", p)]
            self.call([self.heap[wind[1] + 1]], self.heap[wind[1]][2])

    def row_back(self):
        if not self.stack:
            raise Ended("end", self.text(self.value))
        self.named = [self.value]
        back = self.stack.pop()
        words = []
        while self.stack and not (type(self.stack[-1]) is tuple and self.stack[-1][:1] == ("point",)):
            words.insert(0, self.stack.pop())
        if len(back) == 2:
            self.window, self.point = words, back[1]
            return
        _, word, p = back
        if word == "began":
            self.temps = [words[1]]
            self.winds = self.make("wind", p, [words[0], words[2], self.winds], p)
            self.stack.append(("point", "inside", p))
            self.call([self.temps[0]], p)
        elif word == "inside":
            if self.winds == ():
                raise Ended("broken", self.start)
            after = self.heap[self.winds[1] + 2]
            self.winds = self.heap[self.winds[1] + 3]
            self.stack += [self.value, ("point", "ended", p)]
            self.call([after], p)
        elif word == "ended":
            self.value, self.window, self.point = words[0], [], "back"
        else:
            if word == "entering":
                self.winds = words[2]
            self.go_on(words[0], words[1], p)


def step(code, limits, state):
    machine = Machine(code, limits, state)
    try:
        machine.step()
    except Ended as ended:
        return ("ended", ended.ending, tuple(machine.output))
    return ("on", machine.state())


def run(code, limits, state, steps):
    """All states, the ending or ("open",), and what machine_run and making_words tell."""
    machine = Machine(code, limits, state)
    states = [state]
    ending = ("open",)
    count = 0
    while count < steps and ending == ("open",):
        count += 1
        try:
            machine.step()
            states.append(machine.state())
        except Ended as ended:
            ending = ended.ending
    longest = max(len(state[3]) for state in states)
    told = (ending, tuple(machine.output), count, machine.made, machine.collections, longest)
    return states, told, tuple(machine.making_words)


def normal(state):
    """A state whose cells stand in met order, garbage behind them left out, and the used words of its heap."""
    point, value, window, stack, winds, heap, inputs, output, made = state
    roots = [value, *window, *stack, winds]
    order = met(roots, heap)
    places, cells = {}, []
    for n in order:
        places[n] = len(cells)
        cells += [heap[n]] + parts(heap, n)

    def led(word):
        return ("at", places[word[1]]) if is_at(word) else word

    return (point, led(value), tuple(map(led, window)), tuple(map(led, stack)), led(winds), tuple(map(led, cells)),
            inputs, output, made), used(heap)
