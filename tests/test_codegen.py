"""[61]: the compiler."""

import os
import random
import sys
import unittest

sys.path.insert(0, os.path.dirname(os.path.abspath(__file__)))

import plain_meaning
from samples import WIDE, call, const, fn, iff, let, prim, programs, put, seq, var
from test_codecheck import is_steady

from keptrest.code import code_form
from keptrest.codecheck import code_fault
from keptrest.codegen import compiled
from keptrest.core import children, is_program, node_count, places_of, term_at
from keptrest.errors import TooMany
from keptrest.machine import is_machine_code, sound_fault
from keptrest.meaning import run
from keptrest.names import free_numbers, renumbered
from keptrest.passing import turned
from keptrest.prims import WANTED, prim_places
from keptrest.prompts import plain_of_prompts
from keptrest.runs import machine_run


def pending(program, place):
    """How many frames are pending at a node, counted from the fn body (or the program) around it."""
    many = 0
    for k in range(len(place)):
        term = term_at(program, place[:k])
        if term[0] == "fn":
            many = 0
        elif term[0] in ("call", "prim") or place[k] == 0:
            many += 1
    return many


def most_rows(program):
    """10 N + D + 20."""
    places = places_of(program)
    many = 0
    for place in places:
        term = term_at(program, place)
        if term[0] == "call" or term[:2] in (("prim", "keep"), ("prim", "wind")):
            many += pending(program, place)
    return 10 * len(places) + many + 20


class Case(unittest.TestCase):
    def check(self, program, inputs=(), steps=3000):
        """The code is what is promised, and runs like the program."""
        self.assertTrue(is_program(program))
        code = compiled(program)
        self.assertTrue(code_form(program, code))
        self.assertIsNone(code_fault(program, code))
        self.assertTrue(is_steady(program, code))
        self.assertTrue(is_machine_code(code))
        self.assertIsNone(sound_fault(code))
        self.assertLessEqual(len(code[0]), most_rows(program))
        ending, output, _, _ = run(program, inputs, WIDE, steps)
        told = machine_run(code, inputs, (*WIDE, ()), 10 * steps)
        if ending != ("open",):
            self.assertEqual(repr(told[:2]), repr((ending, output)))
        return ending


class Programs(Case):
    def test_samples(self):
        for _, program, inputs in programs():
            self.check(program, inputs)

    def test_each_form(self):
        for program, ending in ((const(7), "7"), (const(True), "#yes"), (const(()), "()"), (const(("name", "a")), "a"),
                                (let(0, const(1), var(0)), "1"), (let(0, const(1), put(0, const(2))), "()"),
                                (let(0, const(1), seq(put(0, const(2)), var(0))), "2"), (iff(const(()), const(1), const(2)), "1"),
                                (fn(const(1)), "#function"), (seq(const(1), const(2)), "2"), (call(fn(var(0), 0), const(3)), "3"),
                                (let(0, const(4), let(1, var(0), var(0))), "4"), (prim("pair", const(1), const(2)), "(1 . 2)")):
            self.assertEqual(self.check(program), ("end", ending))

    def test_each_prim(self):
        for name in WANTED:
            terms = [const(5)] * prim_places(name)
            self.check(prim(name, *terms), (1, 2))
            self.check(prim("pair", prim(name, *terms), const(1)), ())
            names = [let, var]
            program = prim(name, *[var(k) for k in range(len(terms))])
            for k in range(len(terms) - 1, -1, -1):
                program = let(k, prim("pair", const(k), const(True)), program)
            self.check(program, (1, 2))
            self.assertEqual(names, [let, var])

    def test_truths_and_integers_are_two(self):
        for one, other in ((1, True), (0, False)):
            codes = [compiled(prim("show", const(value))) for value in (one, other)]
            self.assertNotEqual(repr(codes[0]), repr(codes[1]))
            endings = [machine_run(compiled(prim("same", const(value), const(one))), (), (*WIDE, ()), 99)[0] for value in (one, other)]
            self.assertEqual(endings, [("end", "#yes"), ("end", "#no")])
            endings = [self.check(iff(const(value), const(5), const(6))) for value in (one, other)]
            self.assertEqual(endings, [("end", "5"), ("end", "6" if other is False else "5")])

    def test_functions_with_rests(self):
        for many in (0, 1, 5):
            for params in range(3):
                numbers = tuple(range(params))
                for body in (var(params), seq(put(params, prim("pair", const(9), var(params))), var(params))):
                    program = call(fn(body, *numbers, rest=params), *[const(k) for k in range(many)])
                    self.check(program)
                    self.check(prim("pair", program, const(1)))

    def test_boxes_that_several_functions_share(self):
        bump = fn(seq(put(0, prim("add", var(0), const(1))), var(0)))
        program = let(0, const(5), let(1, bump, let(2, fn(put(0, var(3)), 3), let(4, fn(var(0)), prim(
            "pair", call(var(1)), seq(call(var(2), const(20)), prim("pair", call(var(1)), call(var(4)))))))))
        self.assertEqual(self.check(renumbered(program)), ("end", "(6 21 . 21)"))

    def test_parameters_that_are_boxed(self):
        program = call(fn(seq(put(0, prim("add", var(0), var(1))), prim("pair", var(0), var(2))), 0, 1, rest=2), const(1), const(2), const(3))
        self.assertEqual(self.check(program), ("end", "(3 3)"))

    def nested(self, depth, leaf):
        if depth == 0:
            return next(leaf)
        return iff(self.nested(depth - 1, leaf), self.nested(depth - 1, leaf), self.nested(depth - 1, leaf))

    def test_tests_within_tests(self):
        source = random.Random(3)
        for k in range(30):
            def leaves():
                while True:
                    yield source.choice((prim("more"), const(True), const(False), prim("ask"), prim("is nothing", prim("show", const(1)))))
            program = self.nested(3, leaves())
            self.check(program, (True, False, 5, False)[:k % 5])
            self.check(prim("pair", program, prim("show", const(2))), (True, False, 5, False)[:k % 5])

    def test_a_value_of_a_test_under_frames(self):
        inner = iff(prim("more"), prim("ask"), prim("give up", const(1)))
        for program in (prim("pair", inner, inner), prim("pair", const(1), prim("pair", inner, inner)), let(0, inner, prim("pair", var(0), inner)),
                        prim("show", iff(const(1), prim("give up", const(2)), prim("give up", const(3)))),
                        let(0, const(3), seq(put(0, inner), prim("pair", var(0), inner)))):
            for inputs in ((), (1,), (1, 2)):
                self.check(program, inputs)

    def test_calls_with_twelve_values(self):
        params = tuple(range(12))
        body = var(0)
        for k in params[1:]:
            body = prim("add", body, prim("times", const(k + 1), var(k)))
        program = call(fn(body, *params), *[prim("add", const(k), prim("ask")) for k in range(12)])
        self.assertEqual(self.check(program, tuple(range(100, 112))), ("end", str(sum((k + 1) * (k + 100 + k) for k in range(12)))))
        last = let(13, fn(const(1), 0), prim("add", const(1), call(var(13), *[call(fn(const(k))) for k in range(12)])))
        self.assertEqual(self.check(renumbered(last))[:2], ("trap", "count"))

    def names(self, many, body):
        for k in range(many - 1, -1, -1):
            body = let(k, prim("ask"), body)
        return body

    def sum_of(self, many):
        term = var(0)
        for k in range(1, many):
            term = prim("add", var(k), term)
        return term

    def test_many_names_alive_at_once(self):
        for many in (2, 30, 50, 56):
            inputs = tuple(range(many))
            self.assertEqual(self.check(self.names(many, self.sum_of(many)), inputs), ("end", str(sum(inputs))))

    def test_many_names_alive_over_calls_and_in_functions(self):
        for many in (2, 30, 50):
            inputs = tuple(range(many))
            body = seq(call(fn(const(1))), prim("add", call(fn(const(7))), self.sum_of(many)))
            self.assertEqual(self.check(self.names(many, body), inputs), ("end", str(7 + sum(inputs))))
            body = call(let(many, fn(self.sum_of(many)), var(many)))
            self.assertEqual(self.check(renumbered(self.names(many, body)), inputs), ("end", str(sum(inputs))))

    def test_too_many_slots(self):
        """It may be raised only if more than 56 words are alive at one node; it is raised if the slots do not do."""
        with self.assertRaises(TooMany) as caught:
            compiled(self.names(70, self.sum_of(70)))
        self.assertEqual(caught.exception.what, "slots")
        body = call(let(70, fn(self.sum_of(70)), var(70)))
        with self.assertRaises(TooMany):
            compiled(renumbered(self.names(70, body)))
        with self.assertRaises(TooMany):
            compiled(self.names(70, prim("add", call(fn(const(7))), self.sum_of(70))))

    def test_kept_continuations_and_winds(self):
        k = prim("keep", fn(seq(put(0, var(2)), const(1)), 2))
        again = iff(prim("below", var(1), const(3)), seq(put(1, prim("add", var(1), const(1))), call(var(0), var(1))), var(1))
        program = let(0, const(()), let(1, const(0), seq(prim("show", prim("wind", fn(prim("show", const(10))), fn(k), fn(prim("show", const(20))))), again)))
        self.assertEqual(self.check(renumbered(program)), ("end", "3"))
        self.check(prim("wind", const(1), const(2), const(3)))
        self.check(prim("wind", prim("show", const(1)), prim("ask"), const(3)), ())
        self.check(prim("keep", prim("keep", fn(var(0), 0))))

    def test_turned_and_plain_programs(self):
        for name, program, inputs in programs():
            other, _ = turned(program)
            self.check(other, inputs, 9000)
        part = prim("prompt", fn(prim("times", const(10), prim("take", fn(call(var(0), call(var(0), const(3))), 0)))))
        plain, _ = plain_of_prompts(prim("add", const(1), part))
        self.assertEqual(self.check(plain), ("end", "301"))
        again, _ = turned(plain)
        self.assertEqual(self.check(again), ("end", "301"))


class Drawn(Case):
    def test_drawn_programs(self):
        source = random.Random(8)
        made = plain_meaning.Programs(44)
        endings = set()
        for _ in range(350):
            program = renumbered(made.program(source.randrange(1, 6)))
            if node_count(program) <= 400:
                endings.add(self.check(program, tuple(range(source.randrange(3))), 400)[0])
        self.assertEqual(endings, {"end", "trap", "open"})

    def test_great_programs(self):
        """Of 2,000 nodes and of the depth 200, as turned may return them."""
        def tree(depth):
            return prim("more") if depth == 0 else prim("same", tree(depth - 1), tree(depth - 1))

        row = const(0)
        for k in range(199):
            row = prim("add", row, prim("ask")) if k % 2 else iff(prim("more"), row, const(1))
        for program in (tree(9), row):
            self.check(program, tuple(range(200)), 5000)

    def test_pending_frames(self):
        program = prim("add", const(1), call(fn(prim("add", call(var(0), const(1)), const(2)), 0), let(1, const(1), call(const(1)))))
        program = renumbered(program)
        self.assertEqual(pending(program, (1, 0, 0, 0)), 1)
        self.assertEqual(pending(program, (1, 1, 1)), 2)
        self.assertEqual(pending(program, (1,)), 1)
        self.assertEqual(children(program)[0], const(1))
        self.assertEqual(free_numbers(program), ())


if __name__ == "__main__":
    unittest.main()
