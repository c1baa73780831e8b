"""[89] to [95]: flat programs and turned programs."""

import os
import random
import sys
import unittest

sys.path.insert(0, os.path.dirname(os.path.abspath(__file__)))

import plain_meaning
import plain_passing
from samples import WIDE, call, const, fn, iff, let, prim, program, programs, put, seq, var

from keptrest.core import depth_of, is_program, node_count, term_at
from keptrest.errors import TooGreat
from keptrest.meaning import run, standing_after
from keptrest.names import is_plain, renumbered
from keptrest.passing import is_flat, origin_of, turned


class Examples(unittest.TestCase):
    """[95]."""

    def test_add(self):
        source = prim("add", const(1), call(fn(var(0), 0), const(2)))
        term = let(0, fn(call(var(1), var(2)), 1, 2), let(3, fn(let(5, prim("add", const(1), var(4)), var(5)), 4), call(var(0), var(3), const(2))))
        self.assertEqual(turned(source), (term, (((1, 0, 0, 0), ()), ((1, 1), (1,)))))
        self.assertEqual(run(term, (), WIDE, 999)[0], ("end", "3"))

    def test_test(self):
        source = seq(iff(const(True), const(1), const(2)), const(5))
        term = let(0, fn(const(5), 1), iff(const(True), call(var(0), const(1)), call(var(0), const(2))))
        self.assertEqual(repr(turned(source)), repr((term, ())))


class Table(unittest.TestCase):
    """[90] to [92], row by row."""

    def check(self, source, term, *origins):
        self.assertEqual(repr(turned(source)), repr((term, origins)))
        self.assertEqual(repr(plain_passing.turned(source)), repr((term, origins)))

    def test_atoms(self):
        for value in (1, True, (), ("name", "a")):
            self.check(const(value), const(value))
        self.check(let(0, const(1), var(0)), let(0, const(1), var(0)))

    def test_boxed_names_and_set(self):
        source = let(0, const(1), seq(put(0, const(2)), var(0)))
        self.check(source, let(0, const(1), let(1, put(0, const(2)), let(2, var(0), var(2)))))
        source = let(0, const(1), put(0, var(0)))
        self.check(source, let(0, const(1), let(1, var(0), let(2, put(0, var(1)), var(2)))))

    def test_tests(self):
        self.check(iff(const(1), const(2), const(3)), let(0, fn(var(1), 1), iff(const(1), call(var(0), const(2)), call(var(0), const(3)))))
        inner = iff(const(1), const(2), const(3))
        self.check(iff(inner, const(4), const(5)), let(0, fn(var(1), 1), let(2, fn(iff(var(3), call(var(0), const(4)), call(var(0), const(5))), 3), iff(
            const(1), call(var(2), const(2)), call(var(2), const(3))))))
        self.check(iff(const(1), inner, const(4)), let(0, fn(var(1), 1), iff(const(1), iff(
            const(1), call(var(0), const(2)), call(var(0), const(3))), call(var(0), const(4)))))

    def test_functions_and_rests(self):
        self.check(fn(var(1), 0, 1), let(0, fn(call(var(1), var(3)), 1, 2, 3), var(0)))
        self.check(fn(var(1), 0, rest=1), let(0, fn(call(var(1), var(3)), 1, 2, rest=3), var(0)))
        self.check(fn(seq(put(0, const(1)), const(2)), 0), let(0, fn(let(3, put(2, const(1)), call(var(1), const(2))), 1, 2), var(0)))

    def test_let_and_seq(self):
        self.check(let(0, prim("ask"), let(1, const(2), var(0))), let(0, prim("ask"), let(1, var(0), let(2, const(2), var(1)))), ((0,), (0,)))
        self.check(seq(prim("ask"), prim("more")), let(0, prim("ask"), let(1, prim("more"), var(1))), ((0,), (0,)), ((1, 0), (1,)))
        self.check(seq(const(1), const(2)), const(2))

    def test_calls(self):
        self.check(call(const(1)), let(0, fn(var(1), 1), call(const(1), var(0))), ((1,), ()))
        self.check(call(const(1), const(2), const(3)), let(0, fn(var(1), 1), call(const(1), var(0), const(2), const(3))), ((1,), ()))
        self.check(call(call(const(1)), prim("ask")), let(0, fn(let(2, prim("ask"), let(3, fn(var(4), 4), call(var(1), var(3), var(2)))), 1),
                                                           call(const(1), var(0))), ((0, 0, 0), (1,)), ((0, 0, 1, 1), ()), ((1,), (0,)))
        self.check(fn(call(var(0), const(1)), 0), let(0, fn(call(var(2), var(1), const(1)), 1, 2), var(0)), ((0, 0), (0,)))

    def test_prims(self):
        self.check(prim("add", const(1), const(2)), let(0, prim("add", const(1), const(2)), var(0)), ((0,), ()))
        self.check(prim("pair", prim("ask"), prim("more")), let(0, prim("ask"), let(1, prim("more"), let(2, prim("pair", var(0), var(1)), var(2)))),
                   ((0,), (0,)), ((1, 0), (1,)), ((1, 1, 0), ()))
        self.check(prim("give up", const(1)), let(0, prim("give up", const(1)), var(0)), ((0,), ()))

    PRELUDE = ("const", ()), ("const", False), ("const", False)

    def parts_behind(self, term):
        """What stands behind the seven lets, whose first parts are told."""
        firsts = []
        for _ in range(7):
            self.assertEqual(term[0], "let")
            firsts.append(term[2])
            term = term[3]
        return firsts, term

    def test_prelude(self):
        for source in (prim("keep", const(1)), prim("wind", const(1), const(2), const(3)), fn(prim("keep", var(0)), 0)):
            term, _ = turned(source)
            firsts, _ = self.parts_behind(term)
            self.assertEqual(repr(firsts[:3]), repr(list(self.PRELUDE)))
            above = fn(let(7, prim("same", var(5), const(())), iff(var(7), call(var(4), const(False)), let(8, prim("second", var(5)), let(
                9, prim("same", var(8), var(6)), iff(var(9), call(var(4), var(5)), let(10, var(1), call(var(10), var(4), var(8), var(6)))))))), 4, 5, 6)
            self.assertEqual(repr(firsts[3]), repr(above))
            self.assertEqual(firsts[4], put(1, var(3)))
            self.assertEqual(firsts[5][:3], ("fn", (13, 14, 15), None))
            self.assertEqual(firsts[6][0], "set")

    def test_go(self):
        term, _ = turned(prim("keep", const(1)))
        firsts, _ = self.parts_behind(term)
        h, j, v = firsts[5][1]
        self.assertEqual((h, j, v), (13, 14, 15))
        into = let(20, prim("first", var(19)), let(21, prim("first", var(20)), let(22, fn(let(24, put(0, var(19)), let(
            25, var(2), call(var(25), var(h), var(j), var(v)))), 23), call(var(21), var(22)))))
        out = let(26, prim("first", var(16)), let(27, prim("second", var(26)), let(28, prim("second", var(16)), let(29, put(0, var(28)), let(
            30, fn(let(32, var(2), call(var(32), var(h), var(j), var(v))), 31), call(var(27), var(30)))))))
        go = fn(let(16, var(0), let(17, prim("same", var(16), var(h)), iff(var(17), call(var(j), var(v)), let(18, fn(iff(var(19), into, out), 19), let(
            33, var(1), call(var(33), var(18), var(h), var(16))))))), h, j, v)
        self.assertEqual(repr(firsts[5]), repr(go))

    def test_keep(self):
        term, origins = turned(prim("keep", const(7)))
        _, rest = self.parts_behind(term)
        n = rest[1]
        self.assertEqual(rest, let(n, fn(var(n + 1), n + 1), let(n + 2, var(0), let(n + 3, fn(let(n + 6, var(2), call(
            var(n + 6), var(n + 2), var(n), var(n + 5))), n + 4, n + 5), call(const(7), var(n), var(n + 3))))))
        self.assertEqual(origins, (((1,) * 10, ()),))

    def test_wind(self):
        term, origins = turned(prim("wind", const(7), const(8), const(9)))
        _, rest = self.parts_behind(term)
        n = rest[1]
        j, into, k1, out, k2, c1, x, h, q, z, s, c2, y, h2, r, s2, c3, x3 = [n] + list(range(n + 2, n + 19))
        behind = let(h2, var(0), let(r, prim("second", var(h2)), let(s2, put(0, var(r)), let(c3, fn(call(var(j), var(y)), x3), call(var(out), var(c3))))))
        inside = let(h, var(0), let(q, prim("pair", var(into), var(out)), let(z, prim("pair", var(q), var(h)), let(s, put(0, var(z)), let(
            c2, fn(behind, y), call(const(8), var(c2)))))))
        self.assertEqual(rest, let(j, fn(var(n + 1), n + 1), let(into, fn(call(const(7), var(k1)), k1), let(out, fn(call(const(9), var(k2)), k2), let(
            c1, fn(inside, x), call(var(into), var(c1)))))))
        places = [place for place, source in origins]
        self.assertEqual([source for _, source in origins], [()] * 3)
        self.assertEqual([term_at(term, place)[1] for place in places], [const(7), const(9), const(8)])


class Flat(unittest.TestCase):
    def test_flat_ones(self):
        for term in (const(1), let(0, const(1), var(0)), let(0, fn(call(var(1), var(2)), 1, 2), call(var(0), var(0), const(1))),
                     let(0, prim("ask"), iff(var(0), let(1, prim("add", var(0), const(1)), var(1)), call(var(0)))), seq(const(1), const(2)),
                     let(0, const(1), seq(put(0, const(2)), let(1, var(0), var(1)))), let(0, const(1), let(1, put(0, const(2)), seq(var(0), var(1)))),
                     let(0, fn(const(1), 1, rest=2), const(3)), let(0, fn(iff(var(1), const(2), const(3)), 1), const(1)), call(const(1))):
            self.assertIs(is_flat(term), True, term)

    def test_each_way_of_not_being_flat(self):
        boxed = put(0, const(2))
        for term in (
                let(0, prim("keep", const(1)), var(0)), let(0, prim("wind", const(1), const(1), const(1)), var(0)), fn(const(1)), prim("ask"),
                let(0, const(1), boxed), let(0, const(1), seq(boxed, var(0))), let(0, call(const(1)), var(0)), seq(call(const(1)), const(1)),
                call(call(const(1))), call(const(1), prim("ask")), call(const(1), fn(const(1))), let(0, prim("add", prim("ask"), const(1)), var(0)),
                let(0, prim("show", call(const(1))), var(0)), iff(prim("ask"), const(1), const(2)), iff(iff(const(1), const(2), const(3)), const(1), const(2)),
                let(0, const(1), seq(put(0, prim("ask")), const(1))), let(0, iff(const(1), const(2), const(3)), var(0)), let(0, let(1, const(1), var(1)), var(0)),
                let(0, seq(const(1), const(2)), var(0)), seq(seq(const(1), const(2)), const(3)), seq(iff(const(1), const(2), const(3)), const(3)),
                iff(const(1), prim("ask"), const(2)), iff(const(1), const(2), fn(const(1))), let(0, const(1), prim("more")),
                let(0, const(1), seq(boxed, call(var(0)))), let(0, const(1), seq(boxed, call(const(1), var(0)))),
                let(0, const(1), seq(boxed, let(1, prim("show", var(0)), const(1)))), let(0, const(1), seq(boxed, iff(var(0), const(1), const(2)))),
                let(0, const(1), let(1, const(2), seq(boxed, seq(put(1, var(0)), const(1))))), let(0, fn(prim("ask")), const(1)),
                let(0, fn(fn(const(1))), const(1)), let(0, fn(prim("keep", const(1))), const(1)), let(0, fn(let(1, call(const(1)), var(1))), const(1))):
            self.assertIs(is_flat(term), False, term)

    def test_at_most_two_frames(self):
        """[89]: in a run of a flat program KONT never has more than 2 frames."""
        for _, source, inputs in programs():
            term, _ = turned(source)
            for steps in range(0, 120, 7):
                standing = standing_after(term, inputs, WIDE, steps)
                if standing is not None:
                    self.assertLessEqual(len(standing[1]), 2)


class Runs(unittest.TestCase):
    """[94]."""

    def check(self, source, inputs, steps):
        told = turned(source)
        term, origins = told
        self.assertEqual(repr(told), repr(plain_passing.turned(source)))
        self.assertTrue(is_plain(term))
        self.assertTrue(is_program(term))
        self.assertTrue(is_flat(term))
        self.assertEqual(list(origins), sorted(origins))
        one = run(source, inputs, WIDE, steps)
        other = run(term, inputs, WIDE, 40 * steps)
        if one[0][0] == "open" or one[0][:2] in (("trap", "memory"), ("trap", "deep")):
            return "open"
        self.assertEqual(other[1], one[1])
        if one[0][0] == "end":
            self.assertEqual(other[0], one[0])
            return "end"
        self.assertEqual(other[0][:2], one[0][:2])
        self.assertEqual(origin_of(origins, other[0][2]), one[0][2])
        return one[0][1]

    def test_samples(self):
        for name, source, inputs in programs():
            self.check(source, inputs, 400)

    def test_drawn_programs(self):
        found = random.Random(12)
        made = plain_meaning.Programs(13)
        endings = set()
        for _ in range(220):
            source = renumbered(made.program(found.randrange(1, 6)))
            if node_count(source) <= 150:
                endings.add(self.check(source, tuple(range(found.randrange(4))), 150))
        self.assertLessEqual({"end", "open", "no function", "input"}, endings)

    def test_twelve_parameters_and_values(self):
        params = tuple(range(12))
        source = call(fn(prim("add", var(0), var(11)), *params), *[const(k) for k in range(12)])
        self.assertEqual(self.check(source, (), 100), "end")
        term, _ = turned(source)
        self.assertEqual(len(term[2][1]), 13)
        self.assertEqual(self.check(call(fn(var(12), *params, rest=12), *[const(k) for k in range(12)]), (), 100), "end")
        self.assertEqual(self.check(call(fn(const(1), *params[:11]), *[const(k) for k in range(12)]), (), 100), "count")

    def test_turned_programs_may_be_turned(self):
        for text in ("(add 1 (keep (fn (k) (k 2))))", "(wind (fn () (show 1)) (fn () (show 2)) (fn () (show 3)))"):
            source = program(text)
            for _ in range(2):
                self.check(source, (), 400)
                source, _ = turned(source)


class Origins(unittest.TestCase):
    def test_origin_of(self):
        origins = (((1, 0, 0, 0), ()), ((1, 1), (1,)))
        self.assertEqual(origin_of(origins, (1, 1)), (1,))
        self.assertEqual(origin_of(origins, (1, 0, 0, 0)), ())
        for place in ((), (1,), (1, 0), (1, 1, 0)):
            self.assertIsNone(origin_of(origins, place))
        self.assertIsNone(origin_of((), ()))

    def test_places_of_origins(self):
        for _, source, _ in programs():
            term, origins = turned(source)
            for place, other in origins:
                one, two = term_at(term, place), term_at(source, other)
                if two[:2] in (("prim", "keep"), ("prim", "wind")):
                    self.assertEqual(one[0], "call")
                else:
                    self.assertEqual(one[0], two[0])
                    self.assertEqual(one[1] if one[0] == "prim" else "call", two[1] if two[0] == "prim" else "call")


class Sizes(unittest.TestCase):
    def great(self, what, source):
        with self.assertRaises(TooGreat) as caught:
            turned(source)
        self.assertEqual(caught.exception.what, what)

    def chain(self, many):
        """It is turned into a term of 2 nodes and the depth 1 for each prim, and one node more."""
        term = prim("ask")
        for _ in range(many - 1):
            term = seq(prim("ask"), term)
        return term

    def test_depth(self):
        self.assertEqual(depth_of(turned(self.chain(200))[0]), 200)
        self.great("depth", self.chain(201))
        self.great("depth", self.chain(400))

    def tree(self, depth, leaf):
        return leaf if depth == 0 else iff(const(1), self.tree(depth - 1, leaf), self.tree(depth - 1, leaf))

    def test_nodes(self):
        """A tree of tests: all its leaves call the one named rest."""
        tree = self.tree(7, const(1))
        many = node_count(turned(tree)[0])
        self.assertEqual(many, 3 + 2 * 127 + 3 * 128)
        leaf = seq(prim("show", const(1)), seq(prim("show", const(1)), seq(prim("show", const(1)), const(1))))
        for least in range(0, 20):
            source = iff(const(1), self.tree(7, leaf), self.row(least))
            size = 3 + 2 + 2 * 127 + (3 + 3 * 3) * 128 + 3 + 3 * least
            if size <= 2000:
                self.assertEqual(node_count(turned(source)[0]), size)
        source = iff(const(1), self.tree(7, leaf), self.row(65))
        self.assertEqual(3 + 2 + 2 * 127 + 12 * 128 + 3 + 3 * 65, 1993)
        self.assertEqual(node_count(turned(source)[0]), 1993)
        self.assertEqual(node_count(turned(iff(const(1), self.tree(7, leaf), self.row(67)))[0]), 1999)
        self.great("nodes", iff(const(1), self.tree(7, leaf), self.row(68)))

    def row(self, many):
        term = const(1)
        for _ in range(many):
            term = seq(prim("show", const(1)), term)
        return term

    def test_just_two_thousand_nodes(self):
        leaf = seq(prim("show", const(1)), seq(prim("show", const(1)), seq(prim("show", const(1)), const(1))))
        last = self.row(66)
        pairs = seq(prim("pair", const(1), const(2)), last)
        self.assertEqual(node_count(turned(iff(const(1), self.tree(7, leaf), pairs))[0]), 2000)
        more = seq(prim("pair", const(1), const(2)), pairs)
        self.great("nodes", iff(const(1), self.tree(7, leaf), more))
        self.great("nodes", iff(const(1), self.tree(7, leaf), self.row(150)))

    def test_nodes_come_ahead_of_depth(self):
        self.great("nodes", self.chain(1000))
        self.great("depth", self.chain(999))


if __name__ == "__main__":
    unittest.main()
