"""[70], [71], [73], [79]: runs of compiled code, beside those of the meaning and those of plain_machine."""

import os
import random
import sys
import unittest

sys.path.insert(0, os.path.dirname(os.path.abspath(__file__)))

import plain_machine
import plain_meaning
from samples import WIDE, call, const, fn, prim, program, programs, var

from keptrest.codegen import compiled
from keptrest.core import node_count
from keptrest.machine import alike_states, begin, is_right
from keptrest.meaning import run
from keptrest.names import renumbered
from keptrest.runs import machine_run, making_words, state_after

SEVEN = prim("add", const(1), prim("keep", fn(call(var(0), const(7)), 0)))


class Case(unittest.TestCase):
    def limits_around(self, code, inputs, steps):
        """Wide limits, and rooms and depths at, below and above what the run needs."""
        words = [one + size for _, one, size in making_words(code, inputs, (*WIDE, ()), steps)]
        room = max(words, default=0)
        deep = machine_run(code, inputs, (*WIDE, ()), steps)[5]
        for other in {room, room - 1, room + 1, room - 3, room // 2, 0}:
            if 0 <= other <= 20000:
                yield other, 20000
        for other in {deep, deep - 1, deep + 1, deep // 2, 0}:
            if 0 <= other <= 20000:
                yield 20000, other
        yield max(0, room - 1), max(0, deep - 1)


class Example(Case):
    """[38] with code."""

    def test_rooms(self):
        code = compiled(SEVEN)
        self.assertEqual(making_words(code, (), (*WIDE, ()), 99), (((1, 0), 0, 1), ((1,), 1, 4)))
        self.assertEqual(machine_run(code, (), (5, 20000, ()), 99)[:2], (("end", "8"), ()))
        self.assertEqual(machine_run(code, (), (4, 20000, ()), 99)[:2], (("trap", "memory", (1,)), ()))
        self.assertEqual(making_words(code, (), (4, 20000, ()), 99), (((1, 0), 0, 1), ((1,), 1, 4)))
        self.assertEqual(making_words(code, (), (0, 20000, ()), 99), (((1, 0), 0, 1),))
        self.assertEqual(machine_run(code, (), (0, 20000, ()), 99)[0], ("trap", "memory", (1, 0)))

    def test_what_runs_tell(self):
        code = compiled(SEVEN)
        told = machine_run(code, (), (5, 20000, ()), 99)
        self.assertEqual(told[3:], (2, 0, 2))
        self.assertEqual(machine_run(code, (), (5, 20000, (0, 1, 7)), 99), (*told[:4], 2, 2))
        trapped = machine_run(code, (), (4, 20000, ()), 99)
        self.assertEqual(trapped[3:], (1, 1, 2))
        for steps in range(told[2]):
            self.assertEqual(machine_run(code, (), (5, 20000, ()), steps)[::2][:2], (("open",), steps))
        self.assertEqual(machine_run(code, (), (5, 20000, ()), 0), (("open",), (), 0, 0, 0, 0))


class BesideMeaning(Case):
    def compare(self, program, inputs, code, limits, steps=600):
        meant = run(program, inputs, limits, steps)
        told = machine_run(code, inputs, (*limits, ()), 12 * steps)
        if meant[0] == ("open",):
            self.assertNotIn(told[0][:2], ((("trap"), "broken"),))
            return
        self.assertEqual(repr(told[:2]), repr(meant[:2]))

    def test_samples(self):
        for name, term, inputs in programs():
            code = compiled(term)
            self.compare(term, inputs, code, WIDE)
            for limits in self.limits_around(code, inputs, 400):
                self.compare(term, inputs, code, limits)

    def test_inputs_that_run_out(self):
        program = [sample for sample in programs() if sample[0] == "out of inputs"][0][1]
        for many in range(5):
            self.compare(program, tuple(range(many)), compiled(program), WIDE)

    def test_drawn_programs(self):
        source = random.Random(20)
        made = plain_meaning.Programs(21)
        endings = set()
        for _ in range(250):
            program = renumbered(made.program(source.randrange(1, 6)))
            if node_count(program) > 300:
                continue
            inputs = tuple(range(source.randrange(4)))
            code = compiled(program)
            for limits in self.limits_around(code, inputs, 300):
                self.compare(program, inputs, code, limits, 300)
                endings.add(machine_run(code, inputs, (*limits, ()), 500)[0][:2][-1])
        self.assertLessEqual({"memory", "deep", "no function", "open"}, endings)


class BesidePlain(Case):
    SCHEDULES = ((), tuple(range(400)), (0,), (1, 2, 5, 11, 12), tuple(range(1, 400, 3)))

    def check(self, code, inputs, limits, steps, source):
        states, told, words = plain_machine.run(code, limits, begin(code, inputs), steps)
        self.assertEqual(repr(machine_run(code, inputs, limits, steps)), repr(told))
        self.assertEqual(repr(making_words(code, inputs, limits, steps)), repr(words))
        for k in {0, len(states) - 1, source.randrange(len(states)), source.randrange(len(states))}:
            state = state_after(code, inputs, limits, k)
            self.assertEqual(repr(plain_machine.normal(state)), repr(plain_machine.normal(states[k])))
            self.assertTrue(is_right(code, state))
        if told[0] != ("open",):
            self.assertIsNone(state_after(code, inputs, limits, told[2]))
            self.assertIsNone(state_after(code, inputs, limits, told[2] + 5))
        return told

    def test_samples(self):
        source = random.Random(1)
        for _, term, inputs in programs():
            code = compiled(term)
            for k, limits in enumerate(self.limits_around(code, inputs, 250)):
                self.check(code, inputs, (*limits, self.SCHEDULES[k % 5]), 250, source)
            for schedule in self.SCHEDULES:
                self.check(code, inputs, (*WIDE, schedule), 250, source)

    def test_schedules_do_not_show(self):
        for _, term, inputs in programs():
            code = compiled(term)
            for limits in self.limits_around(code, inputs, 250):
                rows = {machine_run(code, inputs, (*limits, schedule), 250)[:4] for schedule in self.SCHEDULES}
                self.assertEqual(len(rows), 1)
                words = {making_words(code, inputs, (*limits, schedule), 250) for schedule in self.SCHEDULES}
                self.assertEqual(len(words), 1)
                states = [state_after(code, inputs, (*limits, schedule), 60) for schedule in self.SCHEDULES]
                for state in states[1:]:
                    self.assertEqual(state is None, states[0] is None)
                    if state is not None:
                        self.assertIsNotNone(alike_states(code, states[0], state))

    def test_rooms(self):
        """[79]: with each room from the need on there is no trap "memory", with each lesser one there is."""
        for name, term, inputs in programs():
            code = compiled(term)
            need = max([one + size for _, one, size in making_words(code, inputs, (*WIDE, ()), 200)], default=0)
            for room in range(max(0, need - 12), need + 4):
                ending = machine_run(code, inputs, (room, 20000, ()), 200)[0]
                self.assertEqual(ending[:2] == ("trap", "memory"), room < need, name)


class Long(Case):
    def test_lists_of_thousands(self):
        """What is told of many makings does not take the square of their number."""
        many = 4000
        code = compiled(program(f"(define (upto n l) (if (below 0 n) (upto (less n 1) (pair n l)) l)) (upto {many} ())"))
        words = making_words(code, (), (*WIDE, ()), 90000)[2:]
        self.assertEqual(len(words), many)
        first = words[0][1]
        self.assertEqual(words, tuple((words[0][0], first + 2 * k, 2) for k in range(many)))


if __name__ == "__main__":
    unittest.main()
