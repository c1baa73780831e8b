"""[96] to [100]: prompt programs and their plain programs."""

import os
import random
import sys
import unittest

sys.path.insert(0, os.path.dirname(os.path.abspath(__file__)))

import plain_passing
from samples import WIDE, call, const, fn, iff, let, prim, programs, put, seq, var

from keptrest.core import (children, core_fault, depth_of, is_core, is_program, node_count, places_of, term_at,
                           with_children)
from keptrest.errors import NotThere, TooGreat
from keptrest.meaning import run
from keptrest.names import (binder_place, binders_of, boxed_numbers, free_numbers, is_plain, renumbered, same_core, scope_at,
                            uses_of)
from keptrest.passing import origin_of, turned
from keptrest.prompts import is_prompt_program, plain_of_prompts, prompt_run, prompt_start, prompt_step


def prompt(body):
    return prim("prompt", fn(body))


def take(number, body):
    return prim("take", fn(body, number))


def numbered(term):
    return renumbered(term)


TEN = prim("times", const(10), take(0, call(var(0), call(var(0), const(3)))))
TWICE = prim("add", const(1), prompt(TEN))
NEVER = prim("add", const(1), prompt(prim("times", const(10), prim("take", fn(const(3), 0)))))
PART = ("part", ())


class Examples(unittest.TestCase):
    """[98]."""

    def test_runs(self):
        self.assertEqual(prompt_run(TWICE, (), 100)[:2], (("end", "301"), ()))
        self.assertEqual(prompt_run(NEVER, (), 100)[:2], (("end", "4"), ()))
        self.assertEqual(prompt_run(const(5), (), 100), (("end", "5"), (), 3))
        self.assertEqual(prompt_run(const(5), (), 2), (("open",), (), 2))
        self.assertEqual(prompt_run(const(5), (), 0), (("open",), (), 0))

    def test_plain_program(self):
        """[99]."""
        def reset(k, called):
            m, r, v = k + 1, k + 2, k + 3
            return prim("keep", fn(let(m, var(0), seq(put(0, fn(seq(put(0, var(m)), call(var(k), var(r))), r)), let(v, called, call(var(0), var(v))))), k))

        source = prim("prompt", const(1))
        term = let(0, const(False), let(1, fn(let(2, const(1), reset(3, call(var(2))))), reset(7, call(var(1)))))
        place = (1, 0, 0, 1, 0, 0, 1, 1, 0)
        self.assertEqual(repr(plain_of_prompts(source)), repr((term, ((place, ()),))))
        self.assertEqual(prompt_run(source, (), 100)[0], ("trap", "no function", ()))
        self.assertEqual(run(term, (), WIDE, 1000)[0], ("trap", "no function", place))

    def test_plain_program_of_take(self):
        term, origins = plain_of_prompts(prim("take", const(1)))
        inner = term[3][2][3]
        self.assertEqual(inner, let(2, const(1), prim("keep", fn(let(4, fn(prim("keep", fn(let(7, var(0), seq(
            put(0, fn(seq(put(0, var(7)), call(var(6), var(8))), 8)), let(9, call(var(3), var(5)), call(var(0), var(9))))), 6)), 5), let(
                10, call(var(2), var(4)), call(var(0), var(10)))), 3))))
        self.assertEqual(origins, (((1, 0, 0, 1, 0, 0, 1, 0), ()),))
        self.assertEqual(term_at(term, origins[0][0]), call(var(2), var(4)))


class Programs(unittest.TestCase):
    def test_prompt_programs(self):
        for value in (TWICE, NEVER, const(1), prim("prompt", const(1)), prim("take", const(1)), let(0, const(1), put(0, prim("take", var(0)))), TEN):
            self.assertIs(is_prompt_program(value), True, value)

    def test_others(self):
        for value in (None, 5, "x", (), ("const",), ("var", 0), prim("keep", const(1)), prim("wind", const(1), const(1), const(1)), prim("prompt"), prim("take"),
                      prim("prompt", const(1), const(2)), prim("take", const(1), const(2)), let(1, const(1), var(1)), fn(const(1), 1), prim("add", const(1)),
                      prompt(prim("keep", const(1))), fn(fn(const(1), 0), 0), prim("put-first", const(1), const(1)), let(0, const(1), var(1)), ("const", None),
                      prim("Prompt", const(1)), ("prim", "prompt", const(1)), ("prim", ("prompt",), (const(1),))):
            self.assertIs(is_prompt_program(value), False, value)

    def test_sizes(self):
        def row(many):
            term = const(1)
            for _ in range(many):
                term = seq(term, const(1))
            return term

        self.assertTrue(is_prompt_program(row(60)))
        self.assertFalse(is_prompt_program(row(61)))
        wide = call(*[call(*[const(1)] * 14)] * 14)
        self.assertEqual(node_count(wide), 211)
        wide = call(*[call(*[call(*[const(1)] * 2)] * 14)] * 9)
        self.assertEqual(node_count(wide), 1 + 9 * (1 + 14 * 3))
        self.assertTrue(is_prompt_program(wide))
        more = call(*wide[2], wide[1], const(1), *[const(1)] * 3)
        self.assertEqual(node_count(more), 392)
        self.assertTrue(is_prompt_program(call(more, *[const(1)] * 7)))
        self.assertEqual(node_count(call(more, *[const(1)] * 7)), 400)
        self.assertFalse(is_prompt_program(call(more, *[const(1)] * 8)))

    def test_values_nested_deep(self):
        deep = ()
        for _ in range(490):
            deep = (deep,)
        self.assertFalse(is_prompt_program(deep))
        self.assertFalse(is_prompt_program(prim("prompt", deep)))

    def test_they_are_no_core_programs(self):
        for value in (TWICE, prim("take", const(1))):
            self.assertFalse(is_core(value))
            self.assertFalse(is_program(value))
        self.assertEqual(core_fault(TWICE), ((1,), "form"))
        self.assertEqual(core_fault(prim("take", const(1))), ((), "form"))

    def test_core_functions(self):
        """The functions of core and names take prompt programs, too."""
        term = let(0, const(1), prompt(seq(put(0, const(2)), take(1, call(var(1), var(0))))))
        self.assertTrue(is_prompt_program(term))
        body = (1, 0, 0)
        self.assertEqual(children(term_at(term, (1,))), (term_at(term, (1, 0)),))
        self.assertEqual(with_children(prim("take", const(1)), (const(2),)), prim("take", const(2)))
        self.assertEqual(term_at(term, body + (1,))[1], "take")
        with self.assertRaises(NotThere):
            term_at(term, (1, 1))
        self.assertEqual(places_of(prim("prompt", prim("take", const(1)))), ((), (0,), (0, 0)))
        self.assertEqual((node_count(term), depth_of(term)), (12, 7))
        self.assertEqual(free_numbers(term_at(term, body)), (0,))
        self.assertEqual(binders_of(term), (0, 1))
        self.assertEqual(boxed_numbers(term), (0,))
        self.assertEqual(binder_place(term, 1), body + (1, 0))
        self.assertEqual(uses_of(term, 0), (body + (0,), body + (1, 0, 0, 1)))
        self.assertEqual(scope_at(term, body + (1, 0, 0)), (0, 1))
        other = let(7, const(1), prompt(seq(put(7, const(2)), take(3, call(var(3), var(7))))))
        self.assertEqual(renumbered(other), term)
        self.assertTrue(same_core(other, term))
        self.assertTrue(is_plain(term))
        self.assertFalse(is_plain(other))


class Steps(unittest.TestCase):
    """[97], step by step."""

    MARK = ("mark", ())

    def steps(self, program, inputs=()):
        standings = [prompt_start(program, inputs)]
        while True:
            told = prompt_step(program, standings[-1])
            if told[0] == "ended":
                return standings, told
            standings.append(told[1])

    def test_start(self):
        self.assertEqual(prompt_start(TWICE, (1, True)), (("eval", (), ()), (self.MARK,), (), (), (1, True), ()))

    def test_constant(self):
        standings, told = self.steps(const(5))
        self.assertEqual(standings[1:], [(("give", 5), (self.MARK,), (), (), (), ()), (("give", 5), (), (), (), (), ())])
        self.assertEqual(told, ("ended", ("end", "5"), ()))

    def test_prompt_pushes_a_mark(self):
        program = prim("add", const(1), prompt(const(2)))
        standings, told = self.steps(program)
        frame = ("args", (), (1,), ())
        store = (("fn", (1, 0), ()),)
        self.assertIn((("eval", (1, 0, 0), ()), (self.MARK, frame, ("mark", (1,))), (), store, (), ()), standings)
        at = standings.index((("give", 2), (self.MARK, frame, ("mark", (1,))), (), store, (), ()))
        self.assertEqual(standings[at + 1], (("give", 2), (self.MARK, frame), (), store, (), ()))
        self.assertEqual(told[1], ("end", "3"))

    def test_take_and_part(self):
        standings, _ = self.steps(TWICE)
        thing = ("thing", 2)
        frames = (("args", (1, 0, 0), (10,), ()),)
        below = (self.MARK, ("args", (), (1,), ()), ("mark", (1,)))
        taken = [standing for standing in standings if len(standing[3]) == 3][0]
        body = (1, 0, 0, 1, 0, 0)
        self.assertEqual(taken[:2], (("eval", body, ((0, thing),)), below))
        self.assertEqual(taken[3], (("fn", (1, 0), ()), ("fn", (1, 0, 0, 1, 0), ()), ("part", frames)))
        outer = ("args", body, (thing,), ())
        self.assertIn((("give", 3), below + (outer, ("mark", body + (1,)), *frames)), [standing[:2] for standing in standings])
        self.assertIn((("give", 30), below + (("mark", body), *frames)), [standing[:2] for standing in standings])

    def test_traps(self):
        self.assertEqual(prompt_run(prim("prompt", const(1)), (), 99)[0], ("trap", "no function", ()))
        self.assertEqual(prompt_run(prim("prompt", fn(const(1), 0)), (), 99)[0], ("trap", "count", ()))
        self.assertEqual(prompt_run(prim("take", const(1)), (), 99)[0], ("trap", "no function", ()))
        self.assertEqual(prompt_run(prim("take", fn(const(1))), (), 99)[0], ("trap", "count", ()))
        self.assertEqual(prompt_run(take(0, call(var(0))), (), 99)[0], ("trap", "count", (0, 0)))
        self.assertEqual(prompt_run(take(0, call(var(0), const(1), const(2))), (), 99)[0], ("trap", "count", (0, 0)))
        self.assertEqual(prompt_run(prim("ask"), (), 99)[0], ("trap", "input", ()))
        self.assertEqual(prompt_run(prim("add", const(True), const(1)), (), 99)[0], ("trap", "kind", ()))

    def test_parts_are_functions(self):
        program = take(0, seq(prim("show", var(0)), prim("is function", var(0))))
        self.assertEqual(prompt_run(program, (), 99)[:2], (("end", "#yes"), ("#function",)))

    def test_nothing_traps_for_memory_or_depth(self):
        loop = let(0, const(()), seq(put(0, fn(prim("add", const(1), call(var(0), prim("pair", var(1), var(1)))), 1)), call(var(0), const(1))))
        self.assertEqual(prompt_run(loop, (), 10000)[0], ("open",))


class Sources:
    """Random prompt programs: parts are called never, once, several times, within one another and outside."""

    def __init__(self, seed):
        self.source = random.Random(seed)
        self.count = 0

    def new(self):
        self.count += 1
        return self.count - 1

    def term(self, names, depth):
        source = self.source
        if depth == 0 or source.random() < 0.08:
            if names and source.random() < 0.5:
                return var(source.choice(names))
            return const(source.choice((0, 1, 2, 5, True)))
        kind = source.randrange(14)

        def sub(more=()):
            return self.term(names + list(more), depth - 1)

        if kind < 3:
            return prim("prompt", fn(sub()))
        if kind < 6:
            n = self.new()
            return prim("take", fn(self.uses(names, n, depth - 1), n))
        if kind == 6:
            return prim(source.choice(("add", "less", "times")), sub(), sub())
        if kind == 7:
            n = self.new()
            return let(n, sub(), sub([n]))
        if kind == 8 and names:
            return seq(put(source.choice(names), sub()), sub())
        if kind == 9:
            return seq(prim("show", sub()), sub())
        if kind == 10:
            return iff(prim("is function", sub()), sub(), sub())
        if kind == 11:
            n, m = self.new(), self.new()
            return call(fn(self.term(names + [n, m], depth - 1), n, m), sub(), sub())
        if kind == 12 and names:
            return call(var(source.choice(names)), *[sub() for _ in range(source.choice((0, 1, 1, 1, 1, 2)))])
        if kind == 13:
            return source.choice((iff(prim("more"), prim("ask"), sub()), prim("prompt", sub()), prim("take", sub())))
        return sub()

    def uses(self, names, n, depth):
        """What is done with the part that n means."""
        source = self.source
        kind = source.randrange(6)

        def sub():
            return self.term(names + [n], max(0, depth - 1))

        once = call(var(n), sub())
        if kind == 0:
            return sub()
        if kind == 1:
            return once
        if kind == 2:
            return call(var(n), once)
        if kind == 3:
            return prim("add", once, call(var(n), sub()))
        if kind == 4 and names:
            return seq(put(source.choice(names), var(n)), once)
        return seq(once, call(var(n), sub()))

    def program(self, depth):
        while True:
            self.count = 2
            term = let(0, const(1), let(1, const(2), self.term([0, 1], depth)))
            term = renumbered(term)
            if is_prompt_program(term) and node_count(term) > 8:
                return term


class Facts(unittest.TestCase):
    """[100], and [104] for what is turned then."""

    def check(self, program, inputs=(), steps=400):
        told = plain_of_prompts(program)
        self.assertEqual(repr(told), repr(plain_passing.plain_of_prompts(program)))
        term, origins = told
        self.assertTrue(is_program(term))
        self.assertEqual(list(origins), sorted(origins))
        ending, output, count = prompt_run(program, inputs, steps)
        if ending == ("open",):
            self.assertEqual(count, steps)
            return ending
        self.same(run(term, inputs, WIDE, 60 * steps), ending, output, (origins,))
        if node_count(term) < 400:
            try:
                other, more = turned(term)
            except TooGreat:
                return ending
            self.same(run(other, inputs, WIDE, 100000), ending, output, (more, origins))
        return ending

    def same(self, told, ending, output, rows):
        if told[0] == ("open",) or told[0][:2] in (("trap", "memory"), ("trap", "deep")):
            return
        self.assertEqual(told[1], output)
        if ending[0] == "end":
            self.assertEqual(told[0], ending)
            return
        place = told[0][2]
        for origins in rows:
            place = origin_of(origins, place)
        self.assertEqual((*told[0][:2], place), ending)

    def test_examples(self):
        for program in (TWICE, NEVER, const(5), prim("prompt", const(1)), prim("take", const(1)), TEN):
            self.check(program)

    def test_parts_kept_in_a_box(self):
        keep = prompt(prim("add", const(1), take(1, seq(put(0, var(1)), const(5)))))
        outside = let(0, const(()), seq(prim("show", keep), prim("add", call(var(0), const(10)), call(var(0), call(var(0), const(20))))))
        self.assertEqual(self.check(outside), ("end", "33"))
        self.assertEqual(prompt_run(outside, (), 999)[1], ("5",))
        for many in (0, 2, 3):
            self.assertEqual(self.check(let(0, const(()), seq(keep, call(var(0), *[const(1)] * many))))[:2], ("trap", "count"))

    def test_prompts_within_one_another(self):
        inner = prompt(prim("add", const(1), take(0, prim("times", const(2), take(1, prim("times", const(3), call(var(0), call(var(1), const(4)))))))))
        self.assertEqual(self.check(numbered(inner)), ("end", "27"))
        self.assertEqual(self.check(numbered(prim("add", const(100), prompt(prim("times", const(5), inner))))), ("end", "235"))

    def test_parts_that_are_called_within_one_another(self):
        program = prompt(prim("pair", take(0, call(var(0), call(var(0), const(1)))), take(1, prim("pair", call(var(1), const(2)), call(var(1), const(3))))))
        self.assertEqual(self.check(program), ("end", "((@0=((1 . 2) 1 . 3) . 2) @0 . 3)"))

    def test_take_without_a_prompt_takes_all(self):
        self.assertEqual(self.check(prim("add", const(1), take(0, prim("times", const(2), call(var(0), const(3)))))), ("end", "8"))

    def test_plain_programs_run_alike(self):
        for name, program, inputs in programs():
            if is_prompt_program(program):
                one = run(program, inputs, WIDE, 300)
                other = prompt_run(program, inputs, 301)
                if one[0] != ("open",):
                    self.assertEqual(other[:2], one[:2], name)
                    self.assertEqual(other[2], one[2] + (one[0][0] == "end"), name)
                self.check(program, inputs, 300)

    def test_drawn_programs(self):
        made = Sources(3)
        source = random.Random(4)
        endings = set()
        for _ in range(260):
            program = made.program(source.randrange(3, 7))
            if node_count(program) <= 90:
                endings.add(self.check(program, tuple(range(source.randrange(3))), 300)[:2][-1])
        self.assertLessEqual({"no function", "count", "kind"}, endings)
        self.assertGreater(len(endings), 8)

    def test_steps_are_those_of_runs(self):
        made = Sources(5)
        for _ in range(40):
            program = made.program(4)
            standing = prompt_start(program, (1,))
            for k in range(60):
                ending, output, count = prompt_run(program, (1,), k)
                self.assertEqual((ending, output, count), (("open",), standing[5], k))
                told = prompt_step(program, standing)
                if told[0] == "ended":
                    self.assertEqual(prompt_run(program, (1,), 9999), (*told[1:], k + 1))
                    break
                standing = told[1]


class Sizes(unittest.TestCase):
    def row(self, many):
        return call(*[const(1)] * 2, *[prim("prompt", const(1))] * many)

    def test_nodes(self):
        """A prompt has 19 nodes more in the plain program, the whole has 23 more."""
        self.assertEqual(node_count(plain_of_prompts(const(1))[0]), 1 + 23)
        one, two = [node_count(plain_of_prompts(self.row(many))[0]) for many in (1, 2)]
        self.assertEqual((one, two - one), (3 + 23 + 2 + 19, 2 + 19))
        takes = node_count(plain_of_prompts(prim("take", const(1)))[0])
        self.assertEqual(takes, 2 + 23 + 31)

    def test_just_two_thousand_nodes(self):
        found = set()
        for many in range(90, 130):
            last = const(1)
            for k in range(0, many, 10):
                last = seq(call(*[const(1)] * min(10, many - k)), last)
            term = call(const(1), *[self.row(11)] * 7, self.row(10), last)
            self.assertTrue(is_prompt_program(term))
            size = node_count(term) + (7 * 11 + 10) * 19 + 23
            found.add(size <= 2000)
            if size <= 2000:
                self.assertEqual(node_count(plain_of_prompts(term)[0]), size)
            else:
                with self.assertRaises(TooGreat) as caught:
                    plain_of_prompts(term)
                self.assertEqual(caught.exception.what, "nodes")
        self.assertEqual(found, {True, False})

    def nested(self, many):
        term = const(1)
        for _ in range(many):
            term = prompt(term)
        return term

    def test_depth(self):
        for many in (0, 1, 5, 20):
            term, _ = plain_of_prompts(self.nested(many))
            self.assertEqual(term, plain_passing.plain_of_prompts(self.nested(many))[0])
            self.assertLessEqual(depth_of(term), 2 * many + 14)
        self.assertTrue(is_program(plain_of_prompts(self.nested(29))[0]))

    def test_too_deep(self):
        """Parts that are called in places deep within other ones."""
        def inner(depth):
            return const(1) if depth == 0 else prim("take", prim("prompt", inner(depth - 1)))

        deep = inner(25)
        self.assertTrue(is_prompt_program(deep))
        self.assertLess(depth_of(plain_of_prompts(deep)[0]), 201)
        term = const(1)
        for _ in range(190):
            term = seq(term, const(1))
        self.assertEqual(depth_of(plain_of_prompts(term)[0]), 193)
        for _ in range(7):
            term = seq(term, const(1))
        self.assertEqual(depth_of(plain_of_prompts(term)[0]), 200)
        with self.assertRaises(TooGreat) as caught:
            plain_of_prompts(seq(term, const(1)))
        self.assertEqual(caught.exception.what, "depth")


if __name__ == "__main__":
    unittest.main()
