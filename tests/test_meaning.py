import unittest

from keptrest.meaning import run, standing_after, step, step_words
from keptrest.standings import start

WIDE = (1000, 1000)
C, D, E = ("const", 1), ("const", 2), ("const", 3)


def thing(address):
    return ("thing", address)


T0, T1, T2, T3, T4, T5 = [thing(k) for k in range(6)]


def fn(body, *params, rest=None):
    return ("fn", params, rest, body)


def var(number):
    return ("var", number)


def call(callee, *args):
    return ("call", callee, args)


def prim(name, *args):
    return ("prim", name, args)


class Case(unittest.TestCase):
    """Single steps: standings are (CONTROL, KONT, WINDS, STORE, INPUT, OUTPUT)."""

    def on(self, program, before, after, limits=WIDE):
        before = before + ((), (), (), (), ())[len(before) - 1:]
        after = after + ((), (), (), (), ())[len(after) - 1:]
        self.assertEqual(repr(step(program, limits, before)), repr(("on", after)))

    def ended(self, program, before, ending, limits=WIDE, output=()):
        before = before + ((), (), (), (), ())[len(before) - 1:]
        self.assertEqual(repr(step(program, limits, before)), repr(("ended", ending, output)))


class FromEval(Case):
    def test_const(self):
        for value in (1, True, False, (), ("name", "a")):
            self.on(("const", value), (("eval", (), ()),), (("give", value),))

    def test_var(self):
        program = ("let", 0, C, var(0))
        self.on(program, (("eval", (1,), ((0, 5),)),), (("give", 5),))
        self.on(program, (("eval", (1,), ((0, T0),)), (), (), (("pair", 1, 2),)), (("give", T0), (), (), (("pair", 1, 2),)))

    def test_boxed_var(self):
        program = ("let", 0, C, ("seq", ("set", 0, D), var(0)))
        store = (("box", 7),)
        self.on(program, (("eval", (1, 1), ((0, T0),)), (), (), store), (("give", 7), (), (), store))

    def test_set(self):
        program = ("let", 0, C, ("let", 1, C, ("set", 0, var(1))))
        store = (("box", 7),)
        self.on(program, (("eval", (1, 1), ((0, T0), (1, 4))), (), (), store),
                (("eval", (1, 1, 0), ((1, 4),)), (("set", (1, 1), T0),), (), store))

    def test_if(self):
        program = ("let", 0, C, ("let", 1, C, ("let", 2, C, ("if", var(0), var(1), var(2)))))
        env = ((0, 5), (1, 6), (2, 7))
        p = (1, 1, 1)
        self.on(program, (("eval", p, env),), (("eval", p + (0,), env[:1]), (("if", p, env[1:]),)))

    def test_let(self):
        program = ("let", 0, C, ("let", 1, C, ("let", 2, var(0), ("seq", var(2), var(1)))))
        env = ((0, 5), (1, 6))
        p = (1, 1)
        self.on(program, (("eval", p, env),), (("eval", p + (0,), env[:1]), (("let", p, env[1:]),)))

    def test_seq(self):
        program = ("let", 0, C, ("let", 1, C, ("seq", var(0), var(1))))
        env = ((0, 5), (1, 6))
        p = (1, 1)
        self.on(program, (("eval", p, env),), (("eval", p + (0,), env[:1]), (("seq", p, env[1:]),)))

    def test_fn(self):
        program = ("let", 0, C, fn(prim("add", var(0), var(1)), 1))
        self.on(program, (("eval", (1,), ((0, 5),)),), (("give", T0), (), (), (("fn", (1,), ((0, 5),)),)))
        self.ended(program, (("eval", (1,), ((0, 5),)),), ("trap", "memory", (1,)), (1, 1))
        self.on(program, (("eval", (1,), ((0, 5),)),), (("give", T0), (), (), (("fn", (1,), ((0, 5),)),)), (2, 0))

    def test_call(self):
        program = ("let", 0, C, ("let", 1, C, call(var(0), var(1), var(0))))
        env = ((0, 5), (1, 6))
        p = (1, 1)
        self.on(program, (("eval", p, env),), (("eval", p + (0,), env[:1]), (("args", p, (), env),)))
        self.on(call(C), (("eval", (), ()),), (("eval", (0,), ()), (("args", (), (), ()),)))

    def test_prim(self):
        program = ("let", 0, C, ("let", 1, C, prim("add", var(0), var(1))))
        env = ((0, 5), (1, 6))
        p = (1, 1)
        self.on(program, (("eval", p, env),), (("eval", p + (0,), env[:1]), (("args", p, (), env[1:]),)))

    def test_prims_without_arguments(self):
        ask, more = prim("ask"), prim("more")
        self.on(ask, (("eval", (), ()), (), (), (), (4, True)), (("give", 4), (), (), (), (True,)))
        self.ended(ask, (("eval", (), ()),), ("trap", "input", ()))
        self.on(more, (("eval", (), ()), (), (), (), (4,)), (("give", True), (), (), (), (4,)))
        self.on(more, (("eval", (), ()),), (("give", False),))


class FromGive(Case):
    def test_end(self):
        for value, text in ((5, "5"), (True, "#yes"), ((), "()"), (("name", "a"), "a")):
            self.ended(C, (("give", value), (), (), (), (), ("x",)), ("end", text), output=("x",))
        self.ended(C, (("give", T0), (), (), (("pair", 1, T0),)), ("end", "@0=(1 . @0)"))
        self.ended(C, (("give", T0), (), (), (("fn", (), ()),)), ("end", "#function"))

    def test_if(self):
        program = ("let", 0, C, ("let", 1, C, ("if", C, var(0), var(1))))
        frame = ("if", (1, 1), ((0, 5), (1, 6)))
        for value in (0, 1, True, (), ("name", "no"), -1):
            self.on(program, (("give", value), (frame,)), (("eval", (1, 1, 1), ((0, 5),)),))
        self.on(program, (("give", False), (frame,)), (("eval", (1, 1, 2), ((1, 6),)),))

    def test_seq(self):
        program = ("let", 0, C, ("seq", C, var(0)))
        frames = (("inside", ()), ("seq", (1,), ((0, 5),)))
        self.on(program, (("give", 8), frames), (("eval", (1, 1), ((0, 5),)), frames[:1]))

    def test_let(self):
        program = ("let", 0, C, ("let", 1, C, prim("add", var(0), var(1))))
        self.on(program, (("give", 8), (("let", (1,), ((0, 5),)),)), (("eval", (1, 1), ((0, 5), (1, 8))),))
        unused = ("let", 0, C, D)
        self.on(unused, (("give", 8), (("let", (), ()),)), (("eval", (1,), ()),))

    def test_boxed_let(self):
        program = ("let", 0, C, ("set", 0, var(0)))
        frame = ("let", (), ())
        self.on(program, (("give", 8), (frame,)), (("eval", (1,), ((0, T0),)), (), (), (("box", 8),)))
        self.ended(program, (("give", 8), (frame,)), ("trap", "memory", ()), (0, 9))
        self.on(program, (("give", 8), (frame,)), (("eval", (1,), ((0, T0),)), (), (), (("box", 8),)), (1, 0))

    def test_set(self):
        store = (("pair", 1, 2), ("box", 1), ("box", 3))
        after = (("pair", 1, 2), ("box", 8), ("box", 3))
        program = ("let", 0, C, ("set", 0, C))
        self.on(program, (("give", 8), (("set", (1,), T1),), (), store), (("give", ()), (), (), after))

    def test_args(self):
        program = ("let", 0, C, ("let", 1, C, call(C, C, var(1), var(0))))
        p = (1, 1)
        env = ((0, 5), (1, 6))
        self.on(program, (("give", 8), (("args", p, (), env),)), (("eval", p + (1,), ()), (("args", p, (8,), env),)))
        self.on(program, (("give", 9), (("args", p, (8,), env),)),
                (("eval", p + (2,), env[1:]), (("args", p, (8, 9), env[:1]),)))
        self.on(program, (("give", 9), (("args", p, (8, 9), env[:1]),)),
                (("eval", p + (3,), env[:1]), (("args", p, (8, 9, 9), ()),)))

    def test_prims(self):
        frame = ("args", (), (3,), ())
        self.on(prim("add", C, C), (("give", 4), (frame,)), (("give", 7),))
        self.on(prim("pair", C, C), (("give", 4), (frame,)), (("give", T0), (), (), (("pair", 3, 4),)))
        self.ended(prim("pair", C, C), (("give", 4), (frame,)), ("trap", "memory", ()), (1, 0))
        self.ended(prim("over", C, C), (("give", 0), (frame,)), ("trap", "zero", ()))
        self.ended(prim("over", C, C), (("give", False), (frame,)), ("trap", "kind", ()))
        self.ended(prim("times", C, C), (("give", 10 ** 30 - 1), (frame,)), ("trap", "range", ()))
        first = ("args", (), (), ())
        self.ended(prim("give up", C), (("give", 4), (first,)), ("trap", "given up", ()))
        self.on(prim("show", C), (("give", True), (first,), (), (), (), ("1",)),
                (("give", ()), (), (), (), (), ("1", "#yes")))
        self.on(prim("is pair", C), (("give", T0), (first,), (), (("pair", 1, 2),)),
                (("give", True), (), (), (("pair", 1, 2),)))

    def test_put(self):
        store = (("box", 1), ("pair", 1, 2))
        frame = ("args", (), (T1,), ())
        self.on(prim("put first", C, C), (("give", T1), (frame,), (), store),
                (("give", ()), (), (), (("box", 1), ("pair", T1, 2))))
        self.on(prim("put second", C, C), (("give", 9), (frame,), (), store),
                (("give", ()), (), (), (("box", 1), ("pair", 1, 9))))
        self.ended(prim("put first", C, C), (("give", 9), (("args", (), (5,), ()),), (), store), ("trap", "kind", ()))


class Calls(Case):
    def check_call(self, program, values, store, after, limits=WIDE, kont=()):
        frame = ("args", (), values[:-1], ())
        self.on(program, (("give", values[-1]), kont + (frame,), (), store), after, limits)

    def trapped(self, program, values, store, word, limits=WIDE, kont=()):
        frame = ("args", (), values[:-1], ())
        self.ended(program, (("give", values[-1]), kont + (frame,), (), store), ("trap", word, ()), limits)

    def test_parameters(self):
        program = call(fn(prim("less", var(1), var(0)), 0, 1), C, C)
        store = (("fn", (0,), ()),)
        self.check_call(program, (T0, 5, 6), store, (("eval", (0, 0), ((0, 5), (1, 6))), (), (), store))

    def test_captured(self):
        program = ("let", 0, C, call(fn(prim("less", var(1), var(0)), 1), C))
        store = (("fn", (1, 0), ((0, 9),)),)
        frame = ("args", (1,), (T0,), ())
        self.on(program, (("give", 6), (frame,), (), store), (("eval", (1, 0, 0), ((0, 9), (1, 6))), (), (), store))

    def test_cut(self):
        program = call(fn(var(1), 0, 1), C, C)
        store = (("fn", (0,), ()),)
        self.check_call(program, (T0, 5, 6), store, (("eval", (0, 0), ((1, 6),)), (), (), store))

    def test_boxes(self):
        body = ("seq", ("set", 2, C), ("seq", ("set", 0, C), var(1)))
        program = call(fn(body, 0, 1, 2), C, C, C)
        store = (("fn", (0,), ()),)
        boxes = (("box", 5), ("box", 7))
        self.check_call(program, (T0, 5, 6, 7), store, (("eval", (0, 0), ((0, T1), (1, 6), (2, T2))), (), (), store + boxes))
        self.check_call(program, (T0, 5, 6, 7), store, (("eval", (0, 0), ((0, T1), (1, 6), (2, T2))), (), (), store + boxes),
                        (3, 0))
        self.trapped(program, (T0, 5, 6, 7), store, "memory", (2, 0))

    def test_rest(self):
        program = call(fn(prim("pair", var(0), var(1)), 0, rest=1), C, C, C)
        store = (("fn", (0,), ()),)
        pairs = (("pair", 7, ()), ("pair", 6, T1))
        self.check_call(program, (T0, 5, 6, 7), store, (("eval", (0, 0), ((0, 5), (1, T2))), (), (), store + pairs))
        self.trapped(program, (T0, 5, 6, 7), store, "memory", (4, 0))
        self.check_call(program, (T0, 5, 6, 7), store, (("eval", (0, 0), ((0, 5), (1, T2))), (), (), store + pairs), (5, 0))

    def test_rest_of_none(self):
        program = call(fn(var(1), 0, rest=1), C)
        store = (("fn", (0,), ()),)
        self.check_call(program, (T0, 5), store, (("eval", (0, 0), ((1, ()),)), (), (), store))

    def test_boxed_rest(self):
        program = call(fn(("seq", ("set", 1, C), ("set", 0, C)), 0, rest=1), C, C)
        store = (("fn", (0,), ()),)
        made = (("pair", 6, ()), ("box", 5), ("box", T1))
        self.check_call(program, (T0, 5, 6), store, (("eval", (0, 0), ((0, T2), (1, T3))), (), (), store + made))

    def test_counts(self):
        two = call(fn(C, 0, 1), C)
        rest = call(fn(C, 0, 1, rest=2), C)
        none = call(fn(C))
        store = (("fn", (0,), ()),)
        self.trapped(two, (T0, 1), store, "count")
        self.trapped(rest, (T0, 1), store, "count")
        self.check_call(none, (T0,), store, (("eval", (0, 0), ()), (), (), store))
        many = call(fn(C, 0, 1), C, C, C)
        self.trapped(many, (T0, 1, 2, 3), store, "count")

    def test_no_function(self):
        for value in (5, True, (), ("name", "a")):
            self.trapped(call(C), (value,), (), "no function")
            self.trapped(call(C, C), (value, 1), (), "no function")
        self.trapped(call(C), (T0,), (("pair", 1, 2),), "no function")

    def test_deep(self):
        program = call(fn(C, 0), C)
        store = (("fn", (0,), ()),)
        kont = (("ended", (), 1), ("inside", ()))
        self.check_call(program, (T0, 1), store, (("eval", (0, 0), ()), kont, (), store), (1000, 3), kont)
        self.trapped(program, (T0, 1), store, "deep", (1000, 2), kont)
        self.trapped(program, (T0, 1), store, "deep", (1000, 0), kont)

    def test_the_order_of_the_traps(self):
        program = call(fn(("set", 0, var(1)), 0, rest=1), C, C)
        short = call(fn(("set", 0, var(1)), 0, rest=1))
        store = (("fn", (0,), ()),)
        kont = (("inside", ()),)
        self.trapped(short, (T0,), store, "count", (0, 0), kont)
        self.trapped(program, (T0, 1, 2), store, "deep", (0, 0), kont)
        self.trapped(program, (T0, 1, 2), store, "memory", (0, 1), kont)
        self.trapped(program, (T0, 1, 2), store, "memory", (3, 1), kont)
        made = (("pair", 2, ()), ("box", 1))
        self.check_call(program, (T0, 1, 2), store, (("eval", (0, 0), ((0, T2), (1, T1))), kont, (), store + made), (4, 1), kont)

    def test_kept(self):
        kept = (("seq", (), ()), ("inside", ()))
        store = (("kept", kept, ()),)
        program = call(C, C)
        self.check_call(program, (T0, 5), store, (("give", 5), kept, (), store), (0, 0), (("ended", (), 1),))
        self.trapped(call(C), (T0,), store, "count")
        self.trapped(call(C, C, C), (T0, 1, 2), store, "count")


class Keeping(Case):
    def test_keep(self):
        program = prim("keep", fn(var(0), 0))
        store = (("fn", (0,), ()),)
        kont = (("ended", (), 1),)
        frame = ("args", (), (), ())
        after = store + (("kept", kont, ()),)
        self.on(program, (("give", T0), kont + (frame,), (), store), (("eval", (0, 0), ((0, T1),)), kont, (), after), (5, 2))
        self.ended(program, (("give", T0), kont + (frame,), (), store), ("trap", "memory", ()), (4, 2))
        self.ended(program, (("give", T0), kont + (frame,), (), store), ("trap", "deep", ()), (5, 1))
        self.ended(program, (("give", 5), kont + (frame,)), ("trap", "memory", ()), (3, 2))
        self.ended(program, (("give", 5), kont + (frame,)), ("trap", "no function", ()), (4, 2))
        wrong = prim("keep", fn(C))
        self.ended(wrong, (("give", T0), kont + (frame,), (), store), ("trap", "count", ()))

    def test_keep_has_the_winds(self):
        program = prim("keep", fn(var(0), 0))
        store = (("fn", (0,), ()), ("wind", (), 1, 2, ()))
        self.on(program, (("give", T0), (("args", (), (), ()),), T1, store),
                (("eval", (0, 0), ((0, T2),)), (), T1, store + (("kept", (), T1),)))

    def test_keep_kept(self):
        """keep of a kept continuation gives the new one to it."""
        store = (("kept", (("ended", (), 1),), ()),)
        self.on(prim("keep", C), (("give", T0), (("inside", ()), ("args", (), (), ())), (), store),
                (("give", T1), (("ended", (), 1),), (), store + (("kept", (("inside", ()),), ()),)))


class Winds(Case):
    PROGRAM = prim("wind", fn(C), fn(D), fn(E))
    FNS = (("fn", (0,), ()), ("fn", (1,), ()), ("fn", (2,), ()))

    def test_wind(self):
        frame = ("args", (), (T0, T1), ())
        self.on(self.PROGRAM, (("give", T2), (frame,), (), self.FNS),
                (("eval", (0, 0), ()), (("began", (), T0, T1, T2),), (), self.FNS))
        self.ended(self.PROGRAM, (("give", T2), (frame,), (), self.FNS), ("trap", "deep", ()), (1000, 3))
        self.ended(self.PROGRAM, (("give", T2), (("args", (), (7, T1), ()),), (), self.FNS), ("trap", "no function", ()))

    def test_began(self):
        frame = ("began", (), T0, T1, T2)
        wind = (("wind", (), T0, T2, ()),)
        before = (("give", 9), (frame,), (), self.FNS)
        self.on(self.PROGRAM, before, (("eval", (1, 0), ()), (("inside", ()),), T3, self.FNS + wind), (6, 1))
        self.ended(self.PROGRAM, before, ("trap", "memory", ()), (5, 1))
        self.ended(self.PROGRAM, before, ("trap", "deep", ()), (6, 0))

    def test_began_within_a_wind(self):
        store = self.FNS + (("wind", (), 1, 2, ()),)
        self.on(self.PROGRAM, (("give", 9), (("began", (), T0, T1, T2),), T3, store),
                (("eval", (1, 0), ()), (("inside", ()),), T4, store + (("wind", (), T0, T2, T3),)))

    def test_inside(self):
        store = self.FNS + (("wind", (), 1, 2, ()), ("wind", (), T0, T2, T3))
        self.on(self.PROGRAM, (("give", 9), (("inside", ()),), T4, store),
                (("eval", (2, 0), ()), (("ended", (), 9),), T3, store))
        self.ended(self.PROGRAM, (("give", 9), (("inside", ()),), T3, store), ("trap", "no function", ()))
        self.ended(self.PROGRAM, (("give", 9), (("inside", ()),), T4, store), ("trap", "deep", ()), (1000, 1))

    def test_ended(self):
        self.on(self.PROGRAM, (("give", 1), (("ended", (), 9),)), (("give", 9),))

    def going(self, winds, target, after, limits=WIDE, way="call"):
        """A kept thing with these winds is entered from other ones."""
        store = self.FNS + (("wind", (), T0, T1, ()), ("wind", (), T1, T2, T3), ("wind", (), T2, T0, T3),
                            ("kept", (("ended", (), 4),), target))
        program = ("seq", self.PROGRAM, call(C, C))
        store = tuple((x[0], (0,) + x[1], *x[2:]) if x[0] in ("fn", "wind") else x for x in store)
        frame = {"call": ("args", (1,), (("thing", 6),), ()), "leaving": ("leaving", (1,), ("thing", 6), 8)}[way]
        before = (("give", 8), (frame,), winds, store, (), ())
        if after[0] == "trap":
            self.ended(program, before, after, limits)
        else:
            self.on(program, before, after[:3] + (store,), limits)

    def test_going_on(self):
        kept = ("thing", 6)
        self.going((), (), (("give", 8), (("ended", (), 4),), ()))
        self.going(T4, T4, (("give", 8), (("ended", (), 4),), T4))
        self.going(T4, (), (("eval", (0, 2, 0), ()), (("leaving", (1,), kept, 8),), T3))
        self.going(T4, T5, (("eval", (0, 2, 0), ()), (("leaving", (1,), kept, 8),), T3))
        self.going(T3, T4, (("eval", (0, 1, 0), ()), (("entering", (1,), kept, 8, T4),), T3))
        self.going((), T5, (("eval", (0, 0, 0), ()), (("entering", (1,), kept, 8, T3),), ()))
        self.going(T3, (), (("eval", (0, 1, 0), ()), (("leaving", (1,), kept, 8),), ()))

    def test_going_on_in_each_way(self):
        kept = ("thing", 6)
        self.going((), (), (("give", 8), (("ended", (), 4),), ()), way="leaving")
        self.going(T3, T4, (("eval", (0, 1, 0), ()), (("entering", (1,), kept, 8, T4),), T3), way="leaving")
        self.going(T4, T3, (("eval", (0, 2, 0), ()), (("leaving", (1,), kept, 8),), T3), way="leaving")

    def test_going_on_may_be_deep(self):
        self.going(T4, (), ("trap", "deep", (0,)), (1000, 2))
        self.going((), T4, ("trap", "deep", (0,)), (1000, 3))

    def test_entering(self):
        store = self.FNS + (("wind", (), T0, T1, ()), ("kept", (("ended", (), 4),), T3))
        frame = ("entering", (5,), T4, 8, T3)
        self.on(self.PROGRAM, (("give", 0), (frame,), (), store), (("give", 8), (("ended", (), 4),), T3, store))
        further = store[:4] + (("kept", (), T5), ("wind", (), T1, T2, T3))
        self.on(self.PROGRAM, (("give", 0), (frame,), (), further),
                (("eval", (1, 0), ()), (("entering", (5,), T4, 8, T5),), T3, further))


class Runs(unittest.TestCase):
    LET = ("let", 0, ("const", 2), ("prim", "add", (("var", 0), ("const", 3))))
    KEEP = ("prim", "add", (("const", 1), ("prim", "keep", (("fn", (0,), None, ("call", ("var", 0), (("const", 7),))),))))

    def test_examples(self):
        self.assertEqual(run(self.LET, (), (0, 0), 100), (("end", "5"), (), 9, 0))
        self.assertEqual(run(self.KEEP, (), (5, 1000), 100), (("end", "8"), (), 13, 4))
        self.assertEqual(run(self.KEEP, (), (4, 1000), 100), (("trap", "memory", (1,)), (), 6, 1))

    def test_numbers_of_steps(self):
        for steps in range(12):
            ending = ("end", "5") if steps >= 9 else ("open",)
            self.assertEqual(run(self.LET, (), (0, 0), steps), (ending, (), min(steps, 9), 0))
            standing = standing_after(self.LET, (), (0, 0), steps)
            self.assertEqual(standing is None, steps >= 9)
        self.assertEqual(standing_after(self.LET, (3,), (0, 0), 0), start(self.LET, (3,)))

    def test_the_step_that_ends_counts(self):
        self.assertEqual(run(prim("ask"), (), WIDE, 5), (("trap", "input", ()), (), 1, 0))
        self.assertEqual(run(C, (), WIDE, 1), (("open",), (), 1, 0))
        self.assertEqual(run(C, (), WIDE, 2), (("end", "1"), (), 2, 0))
        self.assertEqual(run(C, (), WIDE, 0), (("open",), (), 0, 0))

    def test_outputs_and_inputs(self):
        program = ("seq", prim("show", prim("ask")), ("seq", prim("show", prim("more")), prim("ask")))
        self.assertEqual(run(program, (True, ("name", "x")), WIDE, 100)[:2], (("end", "x"), ("#yes", "#yes")))
        self.assertEqual(run(program, (True,), WIDE, 100)[:2], (("trap", "input", (1, 1)), ("#yes", "#no")))

    def test_the_greatest_weight_is_passed_by(self):
        """A pair is reached for a while; later nothing is."""
        program = ("seq", prim("first", prim("pair", C, prim("pair", C, C))), C)
        self.assertEqual(run(program, (), WIDE, 100)[3], 4)
        dropped = ("seq", prim("pair", C, C), prim("pair", C, C))
        self.assertEqual(run(dropped, (), WIDE, 100)[3], 2)
        self.assertEqual(run(dropped, (), (2, 0), 100)[0], ("end", "(1 . 1)"))
        self.assertEqual(run(dropped, (), (1, 0), 100)[0], ("trap", "memory", (0,)))

    def test_what_a_put_takes_away_is_reached_no_more(self):
        inner = prim("pair", C, prim("pair", C, C))
        program = ("let", 0, inner, ("seq", prim("put second", var(0), C), ("seq", prim("pair", C, C), var(0))))
        self.assertEqual(run(program, (), (4, 0), 100)[0::3], (("end", "(1 . 1)"), 4))
        boxed = ("let", 0, prim("pair", C, C), ("seq", ("set", 0, C), ("seq", prim("pair", C, C), var(0))))
        self.assertEqual(run(boxed, (), (3, 0), 100)[0::3], (("end", "1"), 3))
        self.assertEqual(run(boxed, (), (2, 0), 100)[0], ("trap", "memory", ()))

    def test_what_a_change_takes_away_was_reached_until_then(self):
        row = prim("pair", C, prim("pair", C, prim("pair", C, C)))
        put = ("let", 0, row, ("seq", prim("put second", var(0), C), C))
        self.assertEqual(run(put, (), WIDE, 100)[0::3], (("end", "1"), 6))
        boxed = ("let", 0, row, ("seq", ("set", 0, C), C))
        self.assertEqual(run(boxed, (), WIDE, 100)[0::3], (("end", "1"), 7))
        late = ("let", 0, prim("pair", C, prim("pair", C, C)), prim("put second", var(0), prim("pair", C, C)))
        self.assertEqual(run(late, (), WIDE, 100)[0::3], (("end", "()"), 6))
        then = ("let", 0, prim("pair", C, prim("pair", C, C)), ("let", 1, prim("put second", var(0), C), (
            "seq", ("set", 1, C), var(0))))
        self.assertEqual(run(then, (), WIDE, 100)[0::3], (("end", "(1 . 1)"), 4))

    def test_the_last_standing_counts(self):
        program = prim("pair", C, C)
        self.assertEqual([run(program, (), WIDE, steps)[3] for steps in range(7)], [0, 0, 0, 0, 0, 2, 2])

    def test_tail_calls(self):
        """A loop finds KONT with the same words each time."""
        less = prim("less", var(1), C)
        loop = fn(("if", prim("same", var(1), ("const", 0)), C, call(var(0), less)), 1)
        program = ("let", 0, ("const", ()), ("seq", ("set", 0, loop), call(var(0), ("const", 20))))
        ending, output, count, _ = run(program, (), (10, 0), 1000)
        self.assertEqual((ending, output), (("end", "1"), ()))
        words = step_words(program, (), (10, 0), 1000)
        self.assertEqual(words, (((1, 0, 0, 0), 0),) * 21)
        self.assertEqual(step_words(program, (), (10, 0), 50), words[:len(step_words(program, (), (10, 0), 50))])

    def test_calls_within_calls(self):
        again = prim("add", C, call(var(0), prim("less", var(1), C)))
        loop = fn(("if", prim("same", var(1), ("const", 0)), ("const", 0), again), 1)
        program = ("let", 0, ("const", ()), ("seq", ("set", 0, loop), call(var(0), ("const", 5))))
        self.assertEqual(run(program, (), (10, 10), 1000)[0], ("end", "5"))
        self.assertEqual(run(program, (), (10, 9), 1000)[0], ("trap", "deep", (1, 0, 0, 0, 2, 1)))
        words = step_words(program, (), (10, 10), 1000)
        self.assertEqual([many for _, many in words], [0, 2, 4, 6, 8, 10])

    def test_a_continuation_is_entered_again_and_again(self):
        """Counts up through one kept continuation."""
        keep = prim("keep", fn(("seq", ("set", 0, var(2)), ("const", 0)), 2))
        again = ("if", prim("below", var(1), ("const", 4)), call(var(0), prim("add", var(1), C)), var(1))
        body = ("let", 1, keep, ("seq", prim("show", var(1)), again))
        program = ("let", 0, ("const", ()), body)
        self.assertEqual(run(program, (), WIDE, 1000)[:2], (("end", "4"), ("0", "1", "2", "3", "4")))

    def test_equal_calls(self):
        for _ in range(2):
            self.assertEqual(run(self.KEEP, (), (5, 1000), 100), (("end", "8"), (), 13, 4))

    def test_many_steps(self):
        loop = fn(call(var(0), var(1)), 1)
        program = ("let", 0, ("const", ()), ("seq", ("set", 0, loop), call(var(0), C)))
        self.assertEqual(run(program, (), WIDE, 100000)[0::2], (("open",), 100000))


if __name__ == "__main__":
    unittest.main()
