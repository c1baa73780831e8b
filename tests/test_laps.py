"""[121], [122]: runs that come back, and the turns of a place."""

import os
import random
import sys
import unittest

sys.path.insert(0, os.path.dirname(os.path.abspath(__file__)))

import plain_free
import plain_meaning
from samples import call, const, fn, let, program, programs, put, seq, var

from keptrest.core import places_of
from keptrest.errors import NotThere
from keptrest.laps import lap, turns
from keptrest.meaning import run
from keptrest.names import renumbered
from keptrest.needs import least_room, needs

LOOP = let(0, const(()), seq(put(0, fn(call(var(0)))), call(var(0))))
WIDE = (20000, 20000)
LOOPS = {
    "one turn": "(define (f) (f)) (f)",
    "two turns": "(define (f a b) (f b a)) (f 1 2)",
    "two turns by one": "(define (f) (g)) (define (g) (f)) (f)",
    "three": "(define (f a b c) (f b c a)) (f 1 #yes ())",
    "truths and numbers": "(define (f a b) (f b a)) (f 1 #yes)",
    "a beginning": "(define (f n) (if (below 0 n) (f (less n 1)) (g))) (define (g) (g)) (f 5)",
    "counts down to a loop": "(define (f n) (if (below 0 n) (f (less n 1)) (f 0))) (f 7)",
    "output": "(define (f n) (seq (show n) (f (less 1 n)))) (f 0)",
    "pairs that go": "(define (f p) (f (pair 1 (second p)))) (f (pair 2 3))",
    "a ring": "(define (f p) (f (second p))) (let ((p (pair 1 ()))) (let ((q (pair 2 p))) (seq (put-second p q) (f p))))",
    "a ring of like pairs": "(define (f p) (f (second p))) (let ((p (pair 1 ()))) (let ((q (pair 1 p))) (seq (put-second p q) (f p))))",
    "a box": "(let ((n 0)) (rec ((f (fn () (seq (set n (less 1 n)) (f))))) (f)))",
    "inputs ahead": "(define (f) (if (more) (seq (ask) (f)) (g 1))) (define (g n) (g n)) (f)",
    "kept": "(let ((k (keep (fn (c) c)))) (k k))",
    "kept in a box": "(let ((k ())) (seq (keep (fn (c) (set k c))) (k 1)))",
    "winds": "(define (f) (seq (wind (fn () 1) (fn () 2) (fn () 3)) (f))) (f)",
    "out of a wind again and again": "(let ((k ())) (seq (keep (fn (c) (set k c))) (wind (fn () 1) (fn () (k 0)) (fn () 2))))",
    "deep": "(define (f n) (if (below n 3) (add 1 (f (add n 1))) (g))) (define (g) (g)) (f 0)",
}
GROWING = {
    "counts": "(define (f n) (f (add n 1))) (f 0)",
    "counts in a box": "(let ((n 0)) (rec ((f (fn () (seq (set n (add n 1)) (f))))) (f)))",
    "lists": "(define (f l) (f (pair 1 l))) (f ())",
    "frames": "(define (f) (add 1 (f))) (f)",
    "winds": "(define (f) (wind (fn () 1) f (fn () 2))) (f)",
}


class Case(unittest.TestCase):
    def same(self, one, other):
        self.assertEqual(repr(one), repr(other))


class Laps(Case):
    def test_example(self):
        self.same(lap(LOOP, (), 100), (11, 14))
        self.same(lap(LOOP, (), 14), (11, 14))
        self.assertIsNone(lap(LOOP, (), 13))
        self.assertIsNone(lap(LOOP, (), 0))
        self.assertEqual(max(event[3] for event in needs(LOOP, (), 14) if event[0] == "make"), 3)
        self.assertEqual(least_room(LOOP, (), 1000), 3)

    def compared(self, term, inputs, steps):
        standings, _, ended = plain_free.free_run(term, inputs, steps)
        found = plain_free.laps(standings) if ended is None else []
        least = min(found, key=lambda pair: (pair[1], pair[0])) if found else None
        self.same(lap(term, inputs, steps), least)
        if least is not None:
            self.same(lap(term, inputs, least[1]), least)
            self.assertIsNone(lap(term, inputs, least[1] - 1))
            self.same(lap(term, inputs, steps + 37), least)
        return least

    def test_loops(self):
        for name, text in LOOPS.items():
            self.assertIsNotNone(self.compared(program(text), (4, 5, 6), 160), name)

    def test_turns_a_lap(self):
        one = self.compared(program(LOOPS["one turn"]), (), 100)
        two = self.compared(program(LOOPS["two turns"]), (), 100)
        self.assertEqual(one[1] - one[0], 3)
        self.assertEqual(two[1] - two[0], 14)
        ahead = self.compared(program(LOOPS["inputs ahead"]), (4, 5, 6), 160)
        self.assertGreater(ahead[0], self.compared(program(LOOPS["inputs ahead"]), (), 160)[0])

    def test_growing_loops(self):
        for name, text in GROWING.items():
            self.assertIsNone(self.compared(program(text), (), 150), name)
            self.assertIsNone(lap(program(text), (), 2000), name)

    def test_programs_that_end(self):
        for name, term, inputs in programs():
            if name.startswith("endless"):
                continue
            ending, _, count, _ = run(term, inputs, WIDE, 3000)
            self.assertNotEqual(ending, ("open",))
            for steps in (count - 1, count, count + 50):
                self.assertIsNone(lap(term, inputs, steps), name)

    def test_what_comes_again(self):
        """Outputs and events come again, with a greater number of steps."""
        for text in LOOPS.values():
            term = program(text)
            i, j = lap(term, (1, 2), 500)
            events = needs(term, (1, 2), j + 2 * (j - i))
            first = [event for event in events if i <= event[1] < j]
            for k in (1, 2):
                more = [event for event in events if i + k * (j - i) <= event[1] < j + k * (j - i)]
                self.same([(word, s + k * (j - i), place, number) for word, s, place, number in first], more)

    def test_random_programs(self):
        source, made = random.Random(3), plain_meaning.Programs(3)
        for _ in range(60):
            self.compared(renumbered(made.program(source.randrange(1, 5))), (3, 4), 120)

    def test_long_runs(self):
        """A run that comes back late, and one that grows, with many steps."""
        self.same(lap(program("(define (f n) (if (below 0 n) (f (less n 1)) (f 0))) (f 900)"), (), 30000)[0] > 9000, True)
        for text in GROWING.values():
            self.assertIsNone(lap(program(text), (), 20000))


class Turns(Case):
    def test_example(self):
        self.same(turns(LOOP, (), (1, 0, 0, 0), 20), ((11, 3, 0), (14, 3, 0), (17, 3, 0), (20, 3, 0)))
        self.same(turns(LOOP, (), (1, 0, 0, 0), 19), ((11, 3, 0), (14, 3, 0), (17, 3, 0)))
        self.same(turns(LOOP, (), (), 20), ((0, 0, 0),))
        self.same(turns(LOOP, (), (), 0), ((0, 0, 0),))
        self.same(turns(LOOP, (), (0,), 20), ((1, 0, 1),))
        self.same(turns(LOOP, (), (1, 0, 0, 0), 10), ())

    def test_not_there(self):
        for place in ((2,), (0, 0), (1, 0, 0, 0, 1), (1, -1)):
            with self.assertRaises(NotThere) as caught:
                turns(LOOP, (), place, 5)
            self.assertEqual(caught.exception.path, place)

    def test_compared(self):
        source, made = random.Random(4), plain_meaning.Programs(4)
        cases = [(term, inputs) for _, term, inputs in programs()]
        cases += [(renumbered(made.program(source.randrange(1, 4))), (3,)) for _ in range(15)]
        for term, inputs in cases:
            standings, _, _ = plain_free.free_run(term, inputs, 90)
            told = {}
            for s, standing in enumerate(standings):
                if standing[0][0] == "eval":
                    told.setdefault(standing[0][1], []).append((s, plain_meaning.weight(standing), plain_meaning.kont_words(standing[1])))
            for place in places_of(term):
                self.same(turns(term, inputs, place, 90), tuple(told.get(place, ())))

    def test_changes_ahead_of_the_first_turn(self):
        """What a change took away ahead of the first turn does not count at it."""
        term = program("(let ((p (pair (pair 1 2) 3))) (let ((f (fn () p))) (seq (put-first p 5) (f))))")
        body = [place for place in places_of(term) if turns(term, (), place, 90)][-1]
        ((done, weight, _),) = turns(term, (), body, 90)
        self.assertEqual(weight, plain_meaning.weight(plain_free.free_run(term, (), 90)[0][done]))

    def test_loops_by_tail_calls(self):
        """[122]: the same KONT at each turn."""
        for name in ("one turn", "two turns", "counts down to a loop", "output"):
            term = program(LOOPS[name])
            for place in places_of(term):
                told = turns(term, (), place, 400)
                if len(told) > 2 and place[-1:] == (0,):
                    self.assertEqual(len({words for _, _, words in told}), 1)


if __name__ == "__main__":
    unittest.main()
