"""The meaning once more, slowly and straight from the words of the document, to compare with."""

import random

from keptrest.core import children, places_of, term_at
from keptrest.names import boxed_numbers, free_numbers
from keptrest.prims import do_prim
from keptrest.progtext import value_text


class Ended(Exception):
    def __init__(self, *ending):
        self.ending = ending


def is_thing(value):
    return type(value) is tuple and value[:1] == ("thing",)


def values_of_frame(frame):
    kind = frame[0]
    if kind in ("if", "let", "seq"):
        return [value for _, value in frame[2]]
    if kind == "args":
        return list(frame[2]) + [value for _, value in frame[3]]
    if kind == "inside":
        return []
    return list(frame[2:])


def frame_words(frame):
    return 1 + len(values_of_frame(frame))


def kont_words(kont):
    return sum(frame_words(frame) for frame in kont)


def thing_words(thing):
    if thing[0] == "pair":
        return 2
    if thing[0] == "box":
        return 1
    if thing[0] == "fn":
        return 1 + len(thing[2])
    if thing[0] == "kept":
        return 2 + kont_words(thing[1])
    return 3


def values_of_thing(thing):
    if thing[0] in ("pair", "box"):
        return list(thing[1:])
    if thing[0] == "fn":
        return [value for _, value in thing[2]]
    if thing[0] == "kept":
        return [value for frame in thing[1] for value in values_of_frame(frame)] + [thing[2]]
    return list(thing[2:])


def reach(store, values):
    found = set()
    waiting = [value for value in values if is_thing(value)]
    while waiting:
        address = waiting.pop()[1]
        if address not in found:
            found.add(address)
            waiting += [value for value in values_of_thing(store[address]) if is_thing(value)]
    return found


def roots(standing):
    control, kont, winds = standing[:3]
    values = [winds] + ([value for _, value in control[2]] if control[0] == "eval" else [control[1]])
    return values + [value for frame in kont for value in values_of_frame(frame)]


def reached(standing):
    return tuple(sorted(reach(standing[3], roots(standing))))


def weight(standing):
    return sum(thing_words(standing[3][address]) for address in reached(standing))


class Step:
    def __init__(self, program, limits, standing):
        self.program = program
        self.room, self.deep = limits
        self.roots = roots(standing)
        self.control, kont, self.winds, store, inputs, output = standing
        self.kont = list(kont)
        self.store = list(store)
        self.inputs = list(inputs)
        self.output = list(output)
        self.boxed = boxed_numbers(program)
        self.made = []
        self.turns = []

    def cut(self, env, *places):
        wanted = set()
        for place in places:
            wanted |= set(free_numbers(term_at(self.program, place)))
        return tuple((n, v) for n, v in sorted(dict(env).items()) if n in wanted)

    def evaluate(self, place, env):
        self.control = ("eval", place, self.cut(env, place))

    def give(self, value):
        self.control = ("give", value)

    def make(self, thing, place):
        x = sum(thing_words(self.store[a]) for a in reach(self.store, self.roots + self.made))
        if x + thing_words(thing) > self.room:
            raise Ended("trap", "memory", place)
        self.store.append(thing)
        self.made.append(("thing", len(self.store) - 1))
        return self.made[-1]

    def do(self):
        if self.control[0] == "eval":
            self.do_eval(self.control[1], dict(self.control[2]))
        else:
            self.do_give(self.control[1])
        return (self.control, tuple(self.kont), self.winds, tuple(self.store), tuple(self.inputs), tuple(self.output))

    def do_eval(self, p, env):
        term = term_at(self.program, p)
        kind = term[0]
        if kind == "const":
            self.give(term[1])
        elif kind == "var":
            value = env[term[1]]
            self.give(self.store[value[1]][1] if term[1] in self.boxed else value)
        elif kind == "set":
            self.kont.append(("set", p, env[term[1]]))
            self.evaluate(p + (0,), env)
        elif kind == "if":
            self.kont.append(("if", p, self.cut(env, p + (1,), p + (2,))))
            self.evaluate(p + (0,), env)
        elif kind == "let":
            rest = {n: v for n, v in env.items() if n != term[1]}
            self.kont.append(("let", p, self.cut(rest, p + (1,))))
            self.evaluate(p + (0,), env)
        elif kind == "seq":
            self.kont.append(("seq", p, self.cut(env, p + (1,))))
            self.evaluate(p + (0,), env)
        elif kind == "fn":
            self.give(self.make(("fn", p, self.control[2]), p))
        elif children(term):
            self.argument(p, (), env)
        else:
            self.prim(term[1], (), p)

    def argument(self, p, done, env):
        many = len(children(term_at(self.program, p)))
        behind = [p + (k,) for k in range(len(done) + 1, many)]
        self.kont.append(("args", p, done, self.cut(env, *behind)))
        self.evaluate(p + (len(done),), env)

    def do_give(self, v):
        if not self.kont:
            raise Ended("end", value_text(tuple(self.store), v))
        frame = self.kont.pop()
        kind, p = frame[:2]
        term = term_at(self.program, p)
        if kind == "if":
            self.evaluate(p + ((2,) if v is False else (1,)), dict(frame[2]))
        elif kind == "seq":
            self.evaluate(p + (1,), dict(frame[2]))
        elif kind == "let":
            if term[1] in self.boxed:
                v = self.make(("box", v), p)
            self.evaluate(p + (1,), {**dict(frame[2]), term[1]: v})
        elif kind == "set":
            self.store[frame[2][1]] = ("box", v)
            self.give(())
        elif kind == "args":
            new = frame[2] + (v,)
            if len(new) < len(children(term)):
                self.argument(p, new, dict(frame[3]))
            elif term[0] == "call":
                self.call(new[0], new[1:], p)
            else:
                self.prim(term[1], new, p)
        elif kind == "began":
            self.winds = self.make(("wind", p, frame[2], frame[4], self.winds), p)
            self.turns.append(("in", self.winds[1]))
            self.kont.append(("inside", p))
            self.call(frame[3], (), p)
        elif kind == "inside":
            wind = self.store[self.winds[1]]
            self.turns.append(("out", self.winds[1]))
            self.winds = wind[4]
            self.kont.append(("ended", p, v))
            self.call(wind[3], (), p)
        elif kind == "ended":
            self.give(frame[2])
        elif kind == "leaving":
            self.go_on(frame[2], frame[3], p)
        else:
            self.winds = frame[4]
            self.turns.append(("in", self.winds[1]))
            self.go_on(frame[2], frame[3], p)

    def prim(self, name, values, p):
        if name == "keep":
            kept = self.make(("kept", tuple(self.kont), self.winds), p)
            self.call(values[0], (kept,), p)
        elif name == "wind":
            self.kont.append(("began", p) + values)
            self.call(values[0], (), p)
        elif name == "show":
            self.output.append(value_text(tuple(self.store), values[0]))
            self.give(())
        elif name == "ask":
            if not self.inputs:
                raise Ended("trap", "input", p)
            self.give(self.inputs.pop(0))
        elif name == "more":
            self.give(len(self.inputs) > 0)
        else:
            told = do_prim(name, values, tuple(self.store))
            if told[0] == "trap":
                raise Ended("trap", told[1], p)
            if told[0] == "make":
                self.give(self.make(told[1], p))
            elif told[0] == "put":
                self.store[told[1]] = told[2]
                self.give(())
            else:
                self.give(told[1])

    def call(self, x, values, p):
        thing = self.store[x[1]] if is_thing(x) else (None,)
        if thing[0] == "kept":
            if len(values) != 1:
                raise Ended("trap", "count", p)
            self.kont = []
            self.go_on(x, values[0], p)
            return
        if thing[0] != "fn":
            raise Ended("trap", "no function", p)
        _, params, rest, _ = term_at(self.program, thing[1])
        k = len(params)
        if len(values) < k or (rest is None and len(values) > k):
            raise Ended("trap", "count", p)
        if kont_words(self.kont) > self.deep:
            raise Ended("trap", "deep", p)
        env = dict(thing[2])
        names = dict(zip(params, values))
        if rest is not None:
            row = ()
            for value in reversed(values[k:]):
                row = self.make(("pair", value, row), p)
            names[rest] = row
        for n in names:
            if n in self.boxed:
                names[n] = self.make(("box", names[n]), p)
        self.evaluate(thing[1] + (0,), {**env, **names})

    def go_on(self, kept, v, p):
        _, kont, w = self.store[kept[1]]
        o = self.winds
        ends = [w]
        while ends[-1] != ():
            ends.append(self.store[ends[-1][1]][4])
        if o == w:
            self.kont = list(kont)
            self.give(v)
        elif o not in ends:
            _, q, _, after, rest = self.store[o[1]]
            self.turns.append(("out", o[1]))
            self.winds = rest
            self.kont.append(("leaving", p, kept, v))
            self.call(after, (), q)
        else:
            wind = ends[ends.index(o) - 1]
            thing = self.store[wind[1]]
            self.kont.append(("entering", p, kept, v, wind))
            self.call(thing[2], (), thing[1])


def step(program, limits, standing):
    """("on", STANDING) or ("ended", ENDING, OUTPUT), and the turns of winds."""
    doing = Step(program, limits, standing)
    try:
        return ("on", doing.do()), tuple(doing.turns)
    except Ended as ended:
        return ("ended", ended.ending, tuple(doing.output)), ()


def bodies(program):
    return {place + (0,) for place in places_of(program) if term_at(program, place)[0] == "fn"}


class Programs:
    """Random programs that mostly run on for a while."""

    def __init__(self, seed):
        self.source = random.Random(seed)
        self.next_number = 0

    def number(self):
        self.next_number += 1
        return self.next_number - 1

    def pick(self, names, kind):
        fitting = [n for n, k in names if k == kind]
        return self.source.choice(fitting) if fitting else None

    def num(self, names, depth):
        source = self.source
        if depth <= 0:
            known = self.pick(names, "num")
            if known is not None and source.random() < 0.7:
                return ("var", known)
            return ("const", source.randrange(-3, 5))
        make = source.choice((self.sum_term, self.sum_term, self.if_term, self.let_term, self.call_term, self.keep_term,
                              self.keep_term, self.wind_term, self.set_term, self.show_term, self.kept_call, self.first_term,
                              self.rest_term, self.ask_term, self.again_term, self.wrong_term))
        return make(names, depth - 1)

    def sum_term(self, names, depth):
        name = self.source.choice(("add", "less", "times"))
        return ("prim", name, (self.num(names, depth), self.num(names, depth)))

    def if_term(self, names, depth):
        test = ("prim", "below", (self.num(names, depth), self.num(names, depth)))
        return ("if", test, self.num(names, depth), self.num(names, depth))

    def let_term(self, names, depth):
        value = self.num(names, depth)
        n = self.number()
        return ("let", n, value, self.num(names + [(n, "num")], depth))

    def call_term(self, names, depth):
        n, m = self.number(), self.number()
        body = self.num(names + [(n, "num"), (m, "num")], depth)
        return ("call", ("fn", (n, m), None, body), (self.num(names, depth), self.num(names, depth)))

    def rest_term(self, names, depth):
        n, m = self.number(), self.number()
        body = ("prim", "add", (("prim", "first", (("var", m),)), self.num(names + [(n, "num")], depth)))
        if self.source.random() < 0.4:
            body = ("seq", ("set", m, ("var", m)), body)
        args = tuple(self.num(names, depth - 1) for _ in range(self.source.randrange(2, 5)))
        return ("call", ("fn", (n,), m, body), args)

    def keep_term(self, names, depth):
        n = self.number()
        return ("prim", "keep", (("fn", (n,), None, self.num(names + [(n, "kept")], depth)),))

    def kept_call(self, names, depth):
        known = self.pick(names, "kept")
        if known is None:
            return self.num(names, depth)
        return ("call", ("var", known), (self.num(names, depth),))

    def again_term(self, names, depth):
        """Keeps a continuation in a box and enters it a few times."""
        k, saved, count = self.number(), self.number(), self.number()
        inner = names + [(count, "num")]
        keep = ("prim", "keep", (("fn", (k,), None, ("seq", ("set", saved, ("var", k)), self.num(inner, depth))),))
        if self.source.random() < 0.7:
            keep = self.around(keep, inner, depth)
        more = ("seq", ("set", count, ("prim", "add", (("var", count), ("const", 1)))),
                ("call", ("var", saved), (self.num(inner, depth - 1),)))
        if self.source.random() < 0.4:
            more = self.around(more, inner, depth - 1)
        end = ("if", ("prim", "below", (("var", count), ("const", self.source.randrange(4)))), more, self.num(inner, depth - 1))
        return ("let", saved, ("const", ()), ("let", count, ("const", 0), ("seq", keep, end)))

    def around(self, body, names, depth):
        shows = [("fn", (), None, ("prim", "show", (self.num(names, depth - 2),))) for _ in range(2)]
        return ("prim", "wind", (shows[0], ("fn", (), None, body), shows[1]))

    def wind_term(self, names, depth):
        return self.around(self.num(names, depth), names, depth)

    def set_term(self, names, depth):
        known = self.pick(names, "num")
        if known is None:
            return self.num(names, depth)
        return ("seq", ("set", known, self.num(names, depth)), self.num(names, depth))

    def show_term(self, names, depth):
        return ("seq", ("prim", "show", (self.num(names, depth),)), self.num(names, depth))

    def first_term(self, names, depth):
        pair = ("prim", "pair", (self.num(names, depth), self.num(names, depth)))
        n = self.number()
        inner = names + [(n, "pair")]
        put = ("prim", self.source.choice(("put first", "put second")), (("var", n), self.num(inner, depth - 1)))
        look = ("prim", self.source.choice(("first", "second")), (("var", n),))
        return ("let", n, pair, ("seq", put, ("prim", "add", (look, self.num(inner, depth - 1)))))

    def ask_term(self, names, depth):
        return ("if", ("prim", "more", ()), ("prim", "ask", ()), self.num(names, depth))

    def wrong_term(self, names, depth):
        known = self.pick(names, self.source.choice(("pair", "num", "kept")))
        if known is None or self.source.random() < 0.5:
            return self.num(names, depth)
        return self.source.choice((("var", known), ("call", ("var", known), ()), ("prim", "ask", ()),
                                   ("prim", "give up", (("var", known),)), ("prim", "keep", (("var", known),))))

    def program(self, depth):
        self.next_number = 0
        return self.num([], depth)
