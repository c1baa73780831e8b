"""Turned programs and plain programs of prompt programs once more, straight from the tables of the document.

A node that belongs to a place is wrapped as ("of", place, term); unwrapped() tells the term and the origins.
"""

from keptrest.core import children, with_children
from keptrest.names import binders_of, boxed_numbers, renumbered


def const(value):
    return ("const", value)


def var(n):
    return ("var", n)


def fn(params, body):
    return ("fn", tuple(params), None, body)


def call(f, *values):
    return ("call", f, values)


def prim(name, *values):
    return ("prim", name, values)


def unwrapped(term):
    """The plainly numbered term, and its origins."""
    origins = []

    def bare(part, place):
        if part[0] == "of":
            origins.append((place, part[1]))
            part = part[2]
        return with_children(part, tuple(bare(child, place + (k,)) for k, child in enumerate(children(part))))

    return renumbered(bare(term, ())), tuple(sorted(origins))


class Turning:
    def __init__(self, program):
        self.count = len(binders_of(program))
        self.boxed = boxed_numbers(program)

    def new(self):
        self.count += 1
        return self.count - 1

    def name(self, k, rest):
        """Names a rest k, a number or a function from atoms to terms; rest makes the term of the number."""
        if isinstance(k, int):
            return rest(k)
        j, x = self.new(), self.new()
        return ("let", j, fn((x,), k(var(x))), rest(j))

    def apply(self, k, a):
        return call(var(k), a) if isinstance(k, int) else k(a)

    def let(self, term, rest):
        m = self.new()
        return ("let", m, term, rest(var(m)))

    def all(self, terms, place, rest, first=0):
        """The terms become atoms, one behind the other."""
        if not terms:
            return rest(())
        return self.c(terms[0], place + (first,), lambda a: self.all(terms[1:], place, lambda more: rest((a,) + more), first + 1))

    def c(self, t, p, k):
        kind = t[0]
        if kind == "const" or (kind == "var" and t[1] not in self.boxed):
            return self.apply(k, t)
        if kind == "var":
            return self.let(t, lambda m: self.apply(k, m))
        if kind == "set":
            return self.c(t[2], p + (0,), lambda a: self.let(("set", t[1], a), lambda m: self.apply(k, m)))
        if kind == "if":
            return self.name(k, lambda j: self.c(t[1], p + (0,), lambda a: ("if", a, self.c(t[2], p + (1,), j), self.c(t[3], p + (2,), j))))
        if kind == "fn":
            j = self.new()
            return self.let(("fn", (j,) + t[1], t[2], self.c(t[3], p + (0,), j)), lambda m: self.apply(k, m))
        if kind == "let":
            return self.c(t[2], p + (0,), lambda a: ("let", t[1], a, self.c(t[3], p + (1,), k)))
        if kind == "seq":
            return self.c(t[1], p + (0,), lambda a: self.c(t[2], p + (1,), k))
        if kind == "call":
            return self.all((t[1],) + t[2], p, lambda atoms: self.name(
                k, lambda j: ("of", p, call(atoms[0], var(j), *atoms[1:]))))
        if t[1] == "keep":
            return self.all(t[2], p, lambda atoms: self.name(k, lambda j: self.keep(p, atoms[0], j)))
        if t[1] == "wind":
            return self.all(t[2], p, lambda atoms: self.name(k, lambda j: self.wind(p, *atoms, j)))
        return self.all(t[2], p, lambda atoms: self.let(("of", p, prim(t[1], *atoms)), lambda m: self.apply(k, m)))

    def keep(self, p, f, j):
        i, v = self.new(), self.new()
        return self.let(var(self.w), lambda h: self.let(
            fn((i, v), self.let(var(self.go), lambda g: call(g, h, var(j), var(v)))),
            lambda e: ("of", p, call(f, var(j), e))))

    def wind(self, p, b, u, a, j):
        k1, k2, x, y, x3 = [self.new() for _ in range(5)]
        w = self.w

        def after(into, out):
            c3 = fn((x3,), call(var(j), var(y)))
            return fn((y,), self.let(var(w), lambda h2: self.let(prim("second", h2), lambda r: self.let(
                ("set", w, r), lambda s2: self.let(c3, lambda c: call(out, c))))))

        def inside(into, out):
            return fn((x,), self.let(var(w), lambda h: self.let(prim("pair", into, out), lambda q: self.let(
                prim("pair", q, h), lambda z: self.let(("set", w, z), lambda s: self.let(
                    after(into, out), lambda c2: ("of", p, call(u, c2))))))))

        return self.let(fn((k1,), ("of", p, call(b, var(k1)))), lambda into: self.let(
            fn((k2,), ("of", p, call(a, var(k2)))), lambda out: self.let(inside(into, out), lambda c1: call(into, c1))))

    def above_fn(self):
        k, x, o = self.new(), self.new(), self.new()
        return fn((k, x, o), self.let(prim("same", var(x), const(())), lambda t0: (
            "if", t0, call(var(k), const(False)), self.let(prim("second", var(x)), lambda r: self.let(
                prim("same", r, var(o)), lambda t: ("if", t, call(var(k), var(x)), self.let(
                    var(self.above), lambda f: call(f, var(k), r, var(o)))))))))

    def go_fn(self):
        h, j, v, z, x, x2 = [self.new() for _ in range(6)]
        w, go = self.w, self.go

        def again():
            return self.let(var(go), lambda g: call(g, var(h), var(j), var(v)))

        def into(b):
            d2 = fn((x,), self.let(("set", w, var(z)), lambda s: again()))
            return self.let(d2, lambda d: call(b, d))

        def out(o, a):
            return self.let(prim("second", o), lambda r: self.let(("set", w, r), lambda s: self.let(
                fn((x2,), again()), lambda d3: call(a, d3))))

        def d(o):
            yes = self.let(prim("first", var(z)), lambda q: self.let(prim("first", q), into))
            no = self.let(prim("first", o), lambda q: self.let(prim("second", q), lambda a: out(o, a)))
            return fn((z,), ("if", var(z), yes, no))

        return fn((h, j, v), self.let(var(w), lambda o: self.let(prim("same", o, var(h)), lambda t: (
            "if", t, call(var(j), var(v)), self.let(d(o), lambda dd: self.let(
                var(self.above), lambda f: call(f, dd, var(h), o)))))))

    def whole(self, program):
        def stands(term):
            return term[:2] in (("prim", "keep"), ("prim", "wind")) or any(stands(part) for part in children(term))

        if not stands(program):
            return unwrapped(self.c(program, (), lambda a: a))
        self.w, self.above, self.go = self.new(), self.new(), self.new()
        rest = self.let(self.above_fn(), lambda ab: self.let(("set", self.above, ab), lambda s0: self.let(
            self.go_fn(), lambda gg: self.let(("set", self.go, gg), lambda s1: self.c(program, (), lambda a: a)))))
        return unwrapped(("let", self.w, const(()), ("let", self.above, const(False), ("let", self.go, const(False), rest))))


def turned(program):
    return Turning(program).whole(program)


class Plain:
    def __init__(self, program):
        self.count = len(binders_of(program))
        self.mk = self.new()

    def new(self):
        self.count += 1
        return self.count - 1

    def reset(self, k, called):
        m, r, v = self.new(), self.new(), self.new()
        back = fn((r,), ("seq", ("set", self.mk, var(m)), call(var(k), var(r))))
        return prim("keep", fn((k,), ("let", m, var(self.mk), ("seq", ("set", self.mk, back), (
            "let", v, called, call(var(self.mk), var(v)))))))

    def change(self, term, p):
        parts = [self.change(part, p + (i,)) for i, part in enumerate(children(term))]
        if term[:2] == ("prim", "prompt"):
            t = self.new()
            return ("let", t, parts[0], self.reset(self.new(), ("of", p, call(var(t)))))
        if term[:2] == ("prim", "take"):
            f, k, q, x, v = [self.new() for _ in range(5)]
            part = fn((x,), self.reset(self.new(), call(var(k), var(x))))
            return ("let", f, parts[0], prim("keep", fn((k,), ("let", q, part, (
                "let", v, ("of", p, call(var(f), var(q))), call(var(self.mk), var(v)))))))
        made = with_children(term, tuple(parts))
        return ("of", p, made) if term[0] in ("call", "prim") else made

    def whole(self, program):
        z = self.new()
        return unwrapped(("let", self.mk, const(False), ("let", z, fn((), self.change(program, ())),
                                                         self.reset(self.new(), call(var(z))))))


def plain_of_prompts(program):
    return Plain(program).whole(program)
