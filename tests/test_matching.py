"""[80] to [83]: states that match standings."""

import os
import random
import sys
import unittest

sys.path.insert(0, os.path.dirname(os.path.abspath(__file__)))

import plain_machine
import plain_meaning
from samples import WIDE, call, changed, const, fn, let, prim, programs, seq, var, with_map, with_row
from test_codecheck import is_steady

from keptrest.code import code_form
from keptrest.codecheck import code_fault
from keptrest.codegen import compiled
from keptrest.core import node_count
from keptrest.images import image_of
from keptrest.machine import begin, machine_step, sound_fault
from keptrest.matching import match_map, parting, standing_told
from keptrest.meaning import run, standing_after
from keptrest.names import renumbered
from keptrest.runs import machine_run, state_after
from keptrest.standings import kont_words, start, thing_words

START = ("eval", (), (), ())
NONE, GONE = ("none",), ("gone",)
ADD = prim("add", prim("ask"), const(2))
ADD_CODE = ((("prim", "ask", (0,), (), 1), ("to", 0, 2), ("load", 2, 3), ("to", 1, 4), ("prim", "add", (), (0, 1), 5), ("back",)),
            (START, None, ("eval", (1,), (), (("args", (), 1, (0,)),)), None, ("give", (("args", (), 1, (("const", True),)),)), ("give", ())), (), 0)


def at(number):
    return ("at", number)


def thing(number):
    return ("thing", number)


class Told(unittest.TestCase):
    def same(self, one, other):
        self.assertEqual(repr(one), repr(other))

    def state(self, point, value=NONE, window=(), stack=(), winds=(), heap=(), inputs=(), output=(), made=0):
        return (point, value, window, stack, winds, heap, inputs, output, made)

    def test_points(self):
        s = self.state
        self.same(standing_told(ADD, ADD_CODE, s(0, inputs=(1, True))), (("eval", (), ()), (), (), (), (1, True), ()))
        self.same(standing_told(ADD, ADD_CODE, s(2, window=(7,), output=("x",))), (("eval", (1,), ()), (("args", (), (7,), ()),), (), (), (), ("x",)))
        self.same(standing_told(ADD, ADD_CODE, s(4, 5, (7, 2))), (("give", 5), (("args", (), (True,), ()),), (), (), (), ()))
        self.same(standing_told(ADD, ADD_CODE, s(5, True)), (("give", True), (), (), (), (), ()))

    def test_points_without_names(self):
        for point in (1, 3, "back"):
            self.assertIsNone(standing_told(ADD, ADD_CODE, self.state(point, 5, (1, 2))))
            self.assertIsNone(match_map(ADD, ADD_CODE, start(ADD, ()), self.state(point, 5, (1, 2))))

    def test_what_holds_nothing(self):
        s = self.state
        self.assertIsNone(standing_told(ADD, ADD_CODE, s(2)))
        self.assertIsNone(standing_told(ADD, ADD_CODE, s(2, window=(GONE,))))
        self.assertIsNone(standing_told(ADD, ADD_CODE, s(4, NONE, (1, 2))))
        self.assertIsNone(standing_told(ADD, ADD_CODE, s(5, GONE)))
        self.assertIsNotNone(standing_told(ADD, ADD_CODE, s(2, GONE, (5, GONE))))
        self.assertIsNotNone(standing_told(ADD, ADD_CODE, s(4, 1)))

    def test_words_of_nothing_that_are_constants(self):
        self.assertIsNotNone(standing_told(ADD, ADD_CODE, self.state(2, window=((),))))
        self.assertIsNotNone(standing_told(ADD, ADD_CODE, self.state(5, ())))
        self.assertIsNotNone(standing_told(ADD, ADD_CODE, self.state(5, ("name", "gone"))))

    # let 0 (ask); seq (set 0 1) (let 1 (fn (2) pair var 2 var 0) (wind var 1 var 1 (add (call var 1 5) 7)))
    BIG = let(0, prim("ask"), seq(("set", 0, const(1)), let(1, fn(prim("pair", var(2), var(0)), 2), prim(
        "wind", var(1), var(1), prim("add", call(var(1), const(5)), const(7))))))
    P_FN, P_WIND, P_ADD, P_CALL = (1, 1, 0), (1, 1, 1), (1, 1, 1, 2), (1, 1, 1, 2, 0)

    def big_code(self):
        rows = (("load", 1, 1), ("make", ("fn",), self.P_FN, (0,), (), 6), ("push", 3, (0,), 6), ("to", 1, 6), ("push", 5, (0, 1), 6), ("to", 2, 6),
                ("back",), ("from", 1, 6))
        maps = (START, None, None, ("give", (("seq", (1,), 0, (0,)),)), None, ("give", (("args", self.P_WIND, 2, (0, 1)),)), None,
                ("eval", self.P_CALL, (1,), (("args", self.P_ADD, 0, ()),)))
        entry = (self.P_FN, 1, False, (False, False), (("own", 0), ("handed", 0)), 8)
        rows += (("back",),)
        maps += (("eval", self.P_FN + (0,), (0, 1), ()),)
        code = (rows, maps, (entry,), 0)
        self.assertTrue(code_form(self.BIG, code))
        return code

    def test_frames_and_things(self):
        heap = (("cell", "box", None, 1), at(2), ("cell", "fn", self.P_FN, 1), at(0), ("cell", "wind", self.P_WIND, 3), at(2), at(2), at(8),
                ("cell", "wind", self.P_WIND, 3), 1, 2, (), ("cell", "kept", None, 5), at(4), at(2), at(12), ("point", 5), ("point", "inside", self.P_WIND),
                ("cell", "pair", None, 2), 5, 5)
        stack = (at(12), at(2), at(8), ("point", "entering", self.P_CALL), at(0), ("point", 3), at(12), True, ("point", 5), ("point", "inside", self.P_WIND),
                 5, ("point", "ended", self.P_WIND), 1, 2, at(2), ("point", "began", self.P_WIND))
        told = standing_told(self.BIG, self.big_code(), self.state(7, NONE, (9, at(2)), stack, at(4), heap, (1,), ("o",), 6))
        t = thing
        # numbered: fn 0 (control), kept 1, wind 2 (the REST), box 3, wind 4
        self.same(told, (
            ("eval", self.P_CALL, ((1, t(0)),)),
            (("entering", self.P_CALL, t(1), t(0), t(2)), ("seq", (1,), ((0, t(3)),)), ("args", self.P_WIND, (t(1), True), ()), ("inside", self.P_WIND),
             ("ended", self.P_WIND, 5), ("began", self.P_WIND, 1, 2, t(0)), ("args", self.P_ADD, (), ())),
            t(4),
            (("fn", self.P_FN, ((0, t(3)),)), ("kept", (("args", self.P_WIND, (t(0), t(1)), ()), ("inside", self.P_WIND)), t(4)),
             ("wind", self.P_WIND, 1, 2, ()), ("box", t(0)), ("wind", self.P_WIND, t(0), t(0), t(2))), (1,), ("o",)))
        image = image_of(told)
        for place, number in match_map(self.BIG, self.big_code(), told, self.state(7, 1, (9, at(2)), stack, at(4), heap, (1,), ("o",))):
            kind = told[3][place][0]
            self.assertEqual(heap[number][1], kind)
        self.assertEqual(image[3], told[3])

    def test_maps_of_matches(self):
        heap = (("cell", "pair", None, 2), at(3), 1, ("cell", "pair", None, 2), 1, at(0), ("cell", "box", None, 1), 1)
        state = self.state(5, at(0), heap=heap, output=("a",))
        standing = (("give", thing(2)), (), (), (("box", 1), ("pair", 1, thing(2)), ("pair", thing(1), 1)), (), ("a",))
        self.same(match_map(ADD, ADD_CODE, standing, state), ((1, 3), (2, 0)))
        for other in (changed(standing, 5, ()), changed(standing, 5, ("b",)), changed(standing, 4, (1,)), changed(standing, 0, ("give", 5)),
                      changed(standing, 0, ("give", thing(1))), changed(standing, 3, standing[3][:2] + (("pair", thing(1), True),)),
                      changed(standing, 3, (("pair", 1, thing(2)), ("pair", 1, thing(0)), ("pair", thing(1), 1))), changed(standing, 1, (("inside", ()),))):
            self.assertIsNone(match_map(ADD, ADD_CODE, other, state))
        self.same(match_map(ADD, ADD_CODE, start(ADD, (5,)), begin(ADD_CODE, (5,))), ())
        self.assertIsNone(match_map(ADD, ADD_CODE, start(ADD, (1,)), begin(ADD_CODE, (True,))))


class Facts(unittest.TestCase):
    """[81], [82]: the machine goes along with the meaning."""

    def test_arrivals_match(self):
        made = plain_meaning.Programs(2)
        cases = [(program, inputs) for _, program, inputs in programs()]
        cases += [(renumbered(made.program(4)), (1, 2)) for _ in range(8)]
        found = 0
        for program, inputs in cases:
            code = compiled(program)
            state = begin(code, inputs)
            steps = 0
            for _ in range(50):
                told = standing_told(program, code, state)
                if told is not None:
                    while match_map(program, code, standing_after(program, inputs, WIDE, steps), state) is None:
                        steps += 1
                        self.assertLess(steps, 500)
                    found += 1
                    self.check(program, code, standing_after(program, inputs, WIDE, steps), state, told)
                after = machine_step(code, (*WIDE, (1, 4, 5)), state)
                if after[0] == "ended":
                    break
                state = after[1]
        self.assertGreater(found, 200)

    def check(self, program, code, standing, state, told):
        self.assertEqual(image_of(told), image_of(standing))
        self.assertEqual(told[5], standing[5])
        led = match_map(program, code, standing, state)
        self.assertEqual(list(led), sorted(led))
        for address, number in led:
            self.assertEqual(thing_words(standing[3][address]), plain_machine.size(state[5][number]))
        self.assertGreaterEqual(kont_words(standing[1]), len(state[3]))
        own = match_map(program, code, told, state)
        self.assertEqual([address for address, _ in own], list(range(len(told[3]))))
        self.assertEqual(sorted(number for _, number in own), sorted(number for _, number in led))


class Partings(unittest.TestCase):
    def arrivals(self, program, code, inputs, limits, rows):
        """The points of the arrivals, each with the number of machine steps ahead of it."""
        found = []
        for k in range(rows + 1):
            state = state_after(code, inputs, (*limits, ()), k)
            if state is None:
                return found
            if state[0] != "back" and code[1][state[0]] is not None:
                found.append((k, state))
        return found

    def plain_parting(self, program, code, inputs, limits, steps, rows):
        i = 0
        for k, (_, state) in enumerate(self.arrivals(program, code, inputs, limits, rows)):
            while True:
                standing = standing_after(program, inputs, limits, i) if i <= steps else None
                if standing is None:
                    return (k, state[0])
                if match_map(program, code, standing, state) is not None:
                    break
                i += 1
        return None

    def test_right_codes(self):
        for name, program, inputs in programs():
            code = compiled(program)
            for limits in (WIDE, (6, 20000), (20000, 2)):
                for schedule in ((), tuple(range(100))):
                    self.assertIsNone(parting(program, code, inputs, limits, schedule, 2000, 300), name)

    def test_as_many_steps_as_needed(self):
        for name, program, inputs in programs():
            code = compiled(program)
            rows = machine_run(code, inputs, (*WIDE, ()), 30)[2]
            arrivals = self.arrivals(program, code, inputs, WIDE, rows)
            least = 0
            while parting(program, code, inputs, WIDE, (), least, rows) is not None:
                least += 1
            self.assertIsNone(self.plain_parting(program, code, inputs, WIDE, least, rows))
            self.assertIsNone(parting(program, code, inputs, WIDE, (), least, rows), name)
            self.assertIsNone(parting(program, code, inputs, WIDE, (), least + 1, rows), name)
            if least > 0:
                told = parting(program, code, inputs, WIDE, (), least - 1, rows)
                self.assertEqual(told, self.plain_parting(program, code, inputs, WIDE, least - 1, rows))
                self.assertIsNotNone(told)
                done = arrivals[told[0]][0]
                self.assertEqual(parting(program, code, inputs, WIDE, (), least - 1, done), told)
                self.assertIsNone(parting(program, code, inputs, WIDE, (), least - 1, done - 1))

    def test_bent_codes(self):
        """Codes of the form that are sound, but not let by."""
        code = with_row(ADD_CODE, 2, ("load", 3, 3))
        code = with_map(code, 4, None)
        self.assertIsNone(sound_fault(code))
        self.assertEqual(code_fault(ADD, code), ("point", 2, "words"))
        self.assertEqual(parting(ADD, code, (5,), WIDE, (), 100, 100), (2, 5))
        self.assertEqual(parting(ADD, code, (5,), WIDE, (), 100, 5), (2, 5))
        self.assertIsNone(parting(ADD, code, (5,), WIDE, (), 100, 4))
        self.assertEqual(parting(ADD, ADD_CODE, (5,), WIDE, (), 100, 100), (2, 4))
        self.assertIsNone(parting(ADD, with_map(ADD_CODE, 4, None), (5,), WIDE, (), 100, 100))

    def test_a_standing_may_be_taken_again(self):
        """Idle leads: several arrivals match one standing."""
        rows = (("load", 5, 1), ("to", 0, 2), ("from", 0, 3), ("back",))
        code = (rows, (START, ("give", ()), ("give", ()), ("give", ())), (), 0)
        self.assertIsNone(parting(const(5), code, (), WIDE, (), 1, 10))
        self.assertEqual(parting(const(5), code, (), WIDE, (), 0, 10), (1, 1))
        back = (rows, (START, ("give", ()), START, None), (), 0)
        self.assertEqual(parting(const(5), back, (), WIDE, (), 10, 10), (2, 2))

    def test_arrivals_that_stand_for_nothing(self):
        maps = (START, ("give", (("args", (), 1, (0,)),)), None)
        program = prim("pair", const(5), const(6))
        rows = (("load", 5, 1), ("load", 6, 2), ("back",))
        code = (rows, maps, (), 0)
        self.assertTrue(code_form(program, code))
        self.assertIsNone(sound_fault(code))
        self.assertEqual(parting(program, code, (), WIDE, (), 100, 100), (1, 1))

    def test_runs_that_end(self):
        program = prim("pair", prim("pair", const(1), const(2)), const(3))
        code = compiled(program)
        for room in range(5):
            self.assertIsNone(parting(program, code, (), (room, 0), (), 100, 100))
        self.assertIsNone(parting(program, code, (), WIDE, (), 100, 0))
        self.assertIsNone(parting(program, code, (), WIDE, (), 0, 0))

    def test_drawn_bent_codes(self):
        source = random.Random(11)
        made = plain_meaning.Programs(17)
        parted = alike = 0
        while parted < 30:
            program = renumbered(made.program(source.randrange(2, 5)))
            if not 3 < node_count(program) < 60:
                continue
            code = compiled(program)
            for _ in range(6):
                point = source.randrange(len(code[0]))
                row = code[0][point]
                bent = {"load": lambda: ("load", source.choice((1, True, 7, ())), row[2]), "prim": lambda: (*row[:3], row[3][::-1], row[4]),
                        "test": lambda: ("test", row[2], row[1]), "from": lambda: ("load", 5, row[2])}.get(row[0])
                if bent is None:
                    continue
                other = with_row(code, point, bent())
                if not code_form(program, other) or sound_fault(other) is not None:
                    continue
                told = parting(program, other, (4,), WIDE, (), 150, 100)
                self.assertEqual(told, self.plain_parting(program, other, (4,), WIDE, 150, 100))
                parted += told is not None
                alike += told is None
                if code_fault(program, other) is None and is_steady(program, other):
                    ending = run(program, (4,), WIDE, 150)[0]
                    self.assertTrue(told is None or ending == ("open",))
        self.assertGreater(alike, 10)


if __name__ == "__main__":
    unittest.main()
