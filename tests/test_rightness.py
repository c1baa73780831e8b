"""[70]: right states, and states that are alike."""

import os
import random
import sys
import unittest

sys.path.insert(0, os.path.dirname(os.path.abspath(__file__)))

import plain_machine
from samples import WIDE, changed, programs

from keptrest.codegen import compiled
from keptrest.machine import alike_states, begin, is_machine_code, is_right, machine_step, sound_fault
from keptrest.runs import state_after

PAIR = ("cell", "pair", None, 2)
NONE, GONE = ("none",), ("gone",)


def at(number):
    return ("at", number)


F, W = (0,), (1,)
ROWS = (("load", 1, 1), ("to", 0, 2), ("make", ("fn",), F, (0, 0), (0,), 3), ("push", 5, (0, 0), 4), ("from", 0, 7), ("from", 1, 6), ("back",),
        ("prim", "show", (), (0,), 6), ("make", ("fn",), W, (), (), 6), ("to", 2, 4))
CODE = (ROWS, (None,) * len(ROWS), ((F, 0, False, (False,), (), 0), (W, 0, False, (False,), (), 0)), 0)
CELLS = (("cell", "fn", F, 2), 1, at(0), ("cell", "wind", W, 3), 1, 2, (), ("cell", "wind", W, 3), at(0), 2, at(3),
         ("cell", "kept", None, 4), at(7), 5, 6, ("point", 5), PAIR, at(11), 1)


class Right(unittest.TestCase):
    def state(self, point=4, value=NONE, window=(1,), stack=(), winds=(), heap=CELLS):
        return (point, value, window, stack, winds, heap, (), (), 0)

    def right(self, **parts):
        self.assertIs(is_right(CODE, self.state(**parts)), True, parts)

    def wrong(self, **parts):
        self.assertIs(is_right(CODE, self.state(**parts)), False, parts)

    def test_the_code_is_sound(self):
        self.assertTrue(is_machine_code(CODE))
        self.assertIsNone(sound_fault(CODE))
        self.right()

    def test_needed_words(self):
        self.wrong(window=())
        self.wrong(window=(GONE,))
        self.wrong(window=(GONE, 1))
        self.right(window=(1, GONE))
        self.right(point=0, window=())
        self.right(point=6, value=5, window=(GONE,))
        for value in (NONE, GONE):
            self.wrong(point=6, value=value)
            self.wrong(point="back", value=value)
            self.right(value=value)
        self.right(point="back", value=at(0), window=())
        self.wrong(point=9, value=NONE)
        self.wrong(point=9, value=5, window=())
        self.right(point=9, value=5)

    def test_addresses(self):
        for word in (at(1), at(19), at(-1), at(2), at(100)):
            self.wrong(value=word)
            self.wrong(window=(1, word))
            self.wrong(window=(word,))
            self.wrong(stack=(word, 1, ("point", 5)))
            self.wrong(winds=word)
            self.wrong(heap=CELLS[:-1] + (word,))
        self.right(value=at(16), window=(at(0), at(11)), stack=(at(3), at(7), ("point", 5)))

    def test_stacks(self):
        self.right(stack=(1, 2, ("point", 5)))
        for stack in ((1,), (1, 2, ("point", 5), 3), (1, ("point", 5)), (1, 2, 3, ("point", 5)), (("point", 5),), (1, 2, ("point", 6))):
            self.wrong(stack=stack)
        kept, wind = at(11), at(7)
        good = ((1, 2, kept, ("point", "began", W)), (("point", "inside", W),), (kept, ("point", "ended", W)), (kept, 5, ("point", "leaving", W)),
                (kept, kept, wind, ("point", "entering", W)))
        for stack in good:
            self.right(stack=stack)
            self.right(stack=stack + (1, 2, ("point", 5)) + stack)
            self.wrong(stack=(1,) + stack)
            self.wrong(stack=stack[1:] if len(stack) > 1 else stack + (1,))
        for stack in ((5, 5, ("point", "leaving", W)), (wind, 5, ("point", "leaving", W)), (5, 5, wind, ("point", "entering", W)),
                      (kept, 5, 5, ("point", "entering", W)), (kept, 5, (), ("point", "entering", W)), (kept, 5, kept, ("point", "entering", W))):
            self.wrong(stack=stack)

    def test_winds(self):
        self.right(winds=at(3))
        self.right(winds=at(7))
        for word in (at(0), at(11), at(16), 5, True, ("name", "a")):
            self.wrong(winds=word)
            self.wrong(heap=changed(CELLS, 6, word))
            self.wrong(heap=changed(CELLS, 12, word))
        self.right(heap=changed(CELLS, 12, ()))
        self.wrong(heap=changed(CELLS, 6, at(3)))
        self.wrong(heap=changed(CELLS, 6, at(7)))

    def test_kept_stacks(self):
        self.wrong(heap=changed(CELLS, 15, ("point", 6)))
        self.wrong(heap=changed(CELLS, 15, 5))
        self.wrong(heap=changed(CELLS, 14, ("point", 5)))
        self.right(heap=changed(changed(CELLS, 14, ("point", "ended", W)), 15, ("point", "inside", W)))

    def test_functions(self):
        self.wrong(heap=(("cell", "fn", (9,), 2),) + CELLS[1:])
        self.wrong(heap=(("cell", "fn", W, 2),) + CELLS[1:])
        self.right(heap=CELLS + (("cell", "fn", W, 0),))
        self.wrong(heap=CELLS + (("cell", "fn", F, 1), 1))
        self.wrong(heap=CELLS + (("cell", "fn", F, 3), 1, 2, 3))


class Alike(unittest.TestCase):
    def state(self, point=4, value=NONE, window=(1,), stack=(), winds=(), heap=CELLS, inputs=(), output=(), made=0):
        return (point, value, window, stack, winds, heap, inputs, output, made)

    def test_maps(self):
        one = self.state(window=(at(16), 5))
        other = self.state(window=(at(0), GONE, 7), value=9, heap=(
            PAIR, at(3), 1, ("cell", "kept", None, 4), at(8), 5, 6, ("point", 5), ("cell", "wind", W, 3), at(16), 2, at(12), ("cell", "wind", W, 3), 1, 2, (),
            ("cell", "fn", F, 2), 1, at(16)), made=7)
        self.assertEqual(alike_states(CODE, one, other), ((0, 16), (3, 12), (7, 8), (11, 3), (16, 0)))
        self.assertEqual(alike_states(CODE, other, one), ((0, 16), (3, 11), (8, 7), (12, 3), (16, 0)))

    def test_what_is_needed_counts(self):
        s = self.state
        self.assertEqual(alike_states(CODE, s(), s()), ())
        self.assertEqual(alike_states(CODE, s(value=1), s(value=2)), ())
        self.assertEqual(alike_states(CODE, s(window=(1, 5)), s(window=(1,), heap=())), ())
        self.assertIsNone(alike_states(CODE, s(), s(window=(2,))))
        self.assertIsNone(alike_states(CODE, s(), s(window=(True,))))
        self.assertIsNone(alike_states(CODE, s(6, 1), s(6, 2)))
        self.assertIsNone(alike_states(CODE, s("back", 1), s("back", True)))
        self.assertEqual(alike_states(CODE, s("back", 1), s("back", 1, (5,))), ())
        self.assertIsNone(alike_states(CODE, s("back", 1), s(6, 1)))
        self.assertIsNone(alike_states(CODE, s(0), s(4)))

    def test_other_parts(self):
        s = self.state
        frame = (1, 2, ("point", 5))
        self.assertEqual(alike_states(CODE, s(stack=frame), s(stack=frame)), ())
        for one, other in ((s(stack=frame), s()), (s(stack=frame), s(stack=(1, 3, ("point", 5)))), (s(stack=frame), s(stack=frame + frame)),
                           (s(winds=at(3)), s()), (s(winds=at(3)), s(winds=at(7))), (s(inputs=(1,)), s(inputs=(True,))), (s(inputs=(1,)), s()),
                           (s(output=("1",)), s()), (s(window=(at(0),)), s(window=(at(16),)))):
            self.assertIsNone(alike_states(CODE, one, other))
            self.assertIsNone(alike_states(CODE, other, one))
        self.assertEqual(alike_states(CODE, s(inputs=(1,), output=("a",)), s(inputs=(1,), output=("a",), made=3)), ())

    def test_cells_are_one_to_one(self):
        s = self.state
        heap = (PAIR, 1, 1, PAIR, 1, 1)
        one = s(window=(at(0),), stack=(at(0), at(3), ("point", 5)), heap=heap)
        other = s(window=(at(0),), stack=(at(0), at(0), ("point", 5)), heap=heap)
        third = s(window=(at(3),), stack=(at(3), at(0), ("point", 5)), heap=heap)
        self.assertIsNone(alike_states(CODE, one, other))
        self.assertIsNone(alike_states(CODE, other, one))
        self.assertEqual(alike_states(CODE, one, third), ((0, 3), (3, 0)))


class Facts(unittest.TestCase):
    """[70]: states of runs are right, and alike states go on alike."""

    def moved(self, source, state):
        """An alike state: cells in another order, garbage and other things that do not count changed."""
        point, value, window, stack, winds, heap, inputs, output, made = state
        numbers = plain_machine.headers(heap)
        source.shuffle(numbers)
        places, cells = {}, [PAIR, 1, True] if source.random() < 0.5 else []
        for n in numbers:
            places[n] = len(cells)
            cells += [heap[n]] + plain_machine.parts(heap, n)

        def led(word):
            return at(places[word[1]]) if plain_machine.is_at(word) else word

        return (point, led(value), tuple(map(led, window)), tuple(map(led, stack)), led(winds), tuple(map(led, cells)),
                inputs, output, made + source.randrange(9))

    def test_runs(self):
        source = random.Random(3)
        for name, program, inputs in programs():
            code = compiled(program)
            state = begin(code, inputs)
            for k in range(90):
                self.assertIs(is_right(code, state), True, name)
                told = machine_step(code, (*WIDE, ()), state)
                other = self.moved(source, state)
                self.assertIs(is_right(code, other), True, name)
                self.assertIsNotNone(alike_states(code, state, other))
                again = machine_step(code, (*WIDE, tuple(range(other[8], other[8] + 3))), other)
                self.assertEqual(told[0], again[0])
                if told[0] == "ended":
                    self.assertEqual(told, again)
                    break
                state = told[1]
                self.assertIsNotNone(alike_states(code, state, again[1]))
                if k % 20 == 0:
                    self.assertIsNotNone(alike_states(code, state, state_after(code, inputs, (*WIDE, ()), k + 1)))


if __name__ == "__main__":
    unittest.main()
