"""[119], [120]: events of the run without bounds, and what limits make of them."""

import os
import random
import sys
import unittest

sys.path.insert(0, os.path.dirname(os.path.abspath(__file__)))

import plain_free
import plain_meaning
from samples import call, const, fn, let, prim, program, programs, put, seq, var

from keptrest.codegen import compiled
from keptrest.meaning import run
from keptrest.names import renumbered
from keptrest.needs import least_deep, least_room, needs, rooms_told, trap_event
from keptrest.runs import machine_run

LOOP = let(0, const(()), seq(put(0, fn(call(var(0)))), call(var(0))))
WIDE = (10 ** 9, 10 ** 9)


class Case(unittest.TestCase):
    def same(self, one, other):
        self.assertEqual(repr(one), repr(other))


class Events(Case):
    def test_example(self):
        told = needs(LOOP, (), 17)
        self.same(told, (("make", 2, (), 1), ("make", 5, (1, 0, 0), 3), ("call", 10, (1, 1), 0), ("call", 13, (1, 0, 0, 0), 0),
                         ("call", 16, (1, 0, 0, 0), 0)))
        self.same([event[1] for event in needs(LOOP, (), 100)[2:]], list(range(10, 100, 3)))
        self.same(needs(LOOP, (), 16), told[:-1])
        self.same(needs(LOOP, (), 0), ())
        self.same((least_room(LOOP, (), 100), least_deep(LOOP, (), 100)), (3, 0))

    def test_several_events_in_one_step(self):
        """A call, then the pairs of its rest, then boxes."""
        text = "((fn (a . r) (seq (set a 5) (set r a) r)) 1 2 3)"
        told = needs(program(text), (), 100)
        step = told[1][1]
        self.same([event for event in told if event[1] == step],
                  [("call", step, (), 0), ("make", step, (), 3), ("make", step, (), 5), ("make", step, (), 6), ("make", step, (), 7)])

    def test_keep_and_wind(self):
        term = prim("keep", fn(const(1), 0))
        self.same(needs(term, (), 9), (("make", 1, (0,), 1), ("make", 2, (), 3), ("call", 2, (), 0)))
        winding = prim("wind", fn(const(1)), fn(const(2)), fn(const(3)))
        events = needs(winding, (), 50)
        self.same([event[0] for event in events], ["make", "make", "make", "call", "make", "call", "call"])
        self.same(events[3][3], 4)
        self.same(events[4][2:], ((), 6))

    def test_the_step_that_ends_the_run_has_its_events(self):
        term = prim("keep", const(5))
        self.same(run(term, (), WIDE, 9)[0], ("trap", "no function", ()))
        self.same(needs(term, (), 9), (("make", 2, (), 2),))
        self.same(needs(term, (), 2), ())

    def test_calls_that_trap_count_are_none(self):
        self.same(needs(call(fn(const(1), 0)), (), 9), (("make", 1, (0,), 1),))
        self.same(needs(call(fn(const(1), 0, rest=1)), (), 9), (("make", 1, (0,), 1),))
        kept = prim("keep", fn(call(var(0)), 0))
        self.same([event[0] for event in needs(kept, (), 20)], ["make", "make", "call"])

    def test_entering_a_kept_thing_is_no_call_of_a_function(self):
        kept = prim("keep", fn(call(var(0), const(1)), 0))
        self.same([event[0] for event in needs(kept, (), 20)], ["make", "make", "call"])

    def test_compared(self):
        source, made = random.Random(1), plain_meaning.Programs(1)
        cases = [(term, inputs) for _, term, inputs in programs()]
        cases += [(renumbered(made.program(source.randrange(1, 5))), (3, 4)) for _ in range(80)]
        for term, inputs in cases:
            _, events, _ = plain_free.free_run(term, inputs, 150)
            self.same(needs(term, inputs, 150), events)


class Limits(Case):
    def ended_by(self, term, inputs, limits, steps):
        """[120]: what the events tell of the run with limits."""
        events = needs(term, inputs, steps)
        k = trap_event(events, limits)
        ending, output, count, _ = run(term, inputs, limits, steps)
        machine = machine_run(compiled(term), inputs, (*limits, (0, 3)), 20 * steps)
        if k is None:
            self.same((ending, output, count), run(term, inputs, WIDE, steps)[:3])
            return
        word, s, place, _ = events[k]
        self.same((ending, count), (("trap", "memory" if word == "make" else "deep", place), s + 1))
        self.same(output, run(term, inputs, WIDE, s)[1])
        self.same(machine[:2], (ending, output))

    def test_runs_with_limits(self):
        source, made = random.Random(2), plain_meaning.Programs(2)
        cases = [(term, inputs) for _, term, inputs in programs()]
        cases += [(renumbered(made.program(source.randrange(1, 5))), (3,)) for _ in range(40)]
        for term, inputs in cases:
            room, deep = least_room(term, inputs, 200), least_deep(term, inputs, 200)
            events = needs(term, inputs, 200)
            self.assertEqual(room, max([event[3] for event in events if event[0] == "make"], default=0))
            self.assertEqual(deep, max([event[3] for event in events if event[0] == "call"], default=0))
            self.assertIsNone(trap_event(events, (room, deep)))
            for limits in ((room, deep), (room - 1, deep), (room, deep - 1), (room // 2, deep), (room // 2, deep // 2), (0, 0)):
                if min(limits) >= 0:
                    self.ended_by(term, inputs, limits, 200)
            if room:
                self.assertEqual(run(term, inputs, (room - 1, 10 ** 9), 200)[0][:2], ("trap", "memory"))
            self.assertNotEqual(run(term, inputs, (room, 10 ** 9), 200)[0][:2], ("trap", "memory"))
            if deep:
                self.assertEqual(run(term, inputs, (10 ** 9, deep - 1), 200)[0][:2], ("trap", "deep"))

    def test_trap_event_of_parts(self):
        events = (("make", 1, (), 3), ("call", 2, (), 5), ("make", 4, (0,), 8), ("call", 4, (), 2), ("make", 9, (), 8), ("make", 9, (), 9))
        for limits, k in (((9, 5), None), ((8, 5), 5), ((7, 5), 2), ((9, 4), 1), ((2, 4), 0), ((3, 4), 1), ((0, 0), 0), ((20000, 0), 1)):
            self.assertEqual(trap_event(events, limits), k)
        self.assertIsNone(trap_event((), (0, 0)))
        self.assertIsNone(trap_event(events[:1], (3, 0)))
        self.assertEqual(trap_event(events[3:], (8, 1)), 0)

    def test_rooms_told(self):
        events = (("call", 0, (), 90), ("make", 1, (), 3), ("make", 4, (0,), 3), ("make", 4, (0,), 8), ("call", 4, (), 20), ("make", 9, (), 7), ("make", 9, (), 9))
        self.same(rooms_told(events), ((3, 1), (8, 3), (9, 6)))
        self.same(rooms_told(events[4:]), ((7, 1), (9, 2)))
        self.same(rooms_told(events[:1]), ())
        self.same(rooms_told(()), ())
        for _, term, inputs in programs():
            told = needs(term, inputs, 200)
            rooms = rooms_told(told)
            self.assertEqual([need for need, _ in rooms], sorted({need for need, _ in rooms}))
            for room in range(max([need for need, _ in rooms], default=0) + 1):
                first = next((k for need, k in rooms if need > room), None)
                self.assertEqual(trap_event(told, (room, 10 ** 9)), first)


if __name__ == "__main__":
    unittest.main()
