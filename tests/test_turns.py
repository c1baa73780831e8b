"""[75] to [79]: heaps in turns, and the machine that has one."""

import os
import random
import sys
import unittest

sys.path.insert(0, os.path.dirname(os.path.abspath(__file__)))

import plain_machine
import plain_meaning
from samples import WIDE, programs

from keptrest.codegen import compiled
from keptrest.collect import collect, plain_heap
from keptrest.core import node_count
from keptrest.machine import needs
from keptrest.names import renumbered
from keptrest.runs import machine_run, making_words, state_after
from keptrest.turns import (bring, flip, made_whole, turn, turns_after, turns_begin, turns_fault, turns_run,
                            turns_step)

PAIR = ("cell", "pair", None, 2)
BOX = ("cell", "box", None, 1)
BACK = ("point", 9)


def at(number):
    return ("at", number)


def old(number):
    return ("old", number)


def gone(number):
    return ("gone", number)


EXAMPLE = (PAIR, 7, at(3), PAIR, at(0), (), BOX, 5)
OLD = (PAIR, 7, old(3), PAIR, old(0), (), BOX, 5)


def size(header):
    return header[3] + 1 if header[1] in ("fn", "kept") else header[3]


def words_of(heap):
    """The sizes of the cells of NEW and of those of OLD that are not gone."""
    return sum(size(item) for cells in heap[:2] for item in cells if type(item) is tuple and item[:1] == ("cell",))


class Heaps(unittest.TestCase):
    def same(self, one, other):
        self.assertEqual(repr(one), repr(other))

    def test_example(self):
        """[76]."""
        roots, heap = flip((at(3),), ((), EXAMPLE, 6))
        flipped = (PAIR, 7, old(3), gone(0), old(0), (), BOX, 5)
        self.same((roots, heap), ((at(0),), (flipped, (PAIR, old(0), ()), 0)))
        heap = turn(heap)
        self.same(heap, ((gone(3),) + flipped[1:], (PAIR, at(3), (), PAIR, 7, old(3)), 3))
        heap = turn(heap)
        self.same(heap, ((), (PAIR, at(3), (), PAIR, 7, at(0)), 6))
        self.same(heap[1], collect((at(3),), EXAMPLE)[1])

    def test_bring(self):
        heap = (OLD, (BOX, 1), 0)
        self.same(bring(5, heap), (5, heap))
        self.same(bring(at(0), heap), (at(0), heap))
        self.same(bring(True, heap), (True, heap))
        brought, after = bring(old(3), heap)
        self.same((brought, after), (at(2), ((PAIR, 7, old(3), gone(2), old(0), (), BOX, 5), (BOX, 1, PAIR, old(0), ()), 0)))
        self.same(bring(old(3), after), (at(2), after))
        self.same(bring(old(6), after)[0], at(5))

    def test_flips(self):
        self.same(flip((), ((), EXAMPLE, 0)), ((), ((), (), 0)))
        self.same(flip((5, BACK, True), ((), EXAMPLE, 8)), ((5, BACK, True), ((), (), 0)))
        self.same(flip((), ((), (), 0)), ((), ((), (), 0)))
        roots, heap = flip((at(6), BACK, at(6), at(0)), ((), EXAMPLE, 3))
        self.same(roots, (at(0), BACK, at(0), at(2)))
        self.same(heap, ((gone(2), 7, old(3), PAIR, old(0), (), gone(0), 5), (BOX, 5, PAIR, 7, old(3)), 0))

    def test_turns(self):
        self.same(turn((OLD, (), 0)), ((), (), 0))
        self.same(turn(((), (BOX, 1), 2)), ((), (BOX, 1), 2))
        self.same(turn(((), (BOX, 1), 0)), ((), (BOX, 1), 2))
        self.same(turn((OLD, (BOX, 1, BOX, 2), 0)), (OLD, (BOX, 1, BOX, 2), 2))
        self.same(turn((OLD, (BOX, 1, BOX, 2), 2)), ((), (BOX, 1, BOX, 2), 4))

    def test_faults(self):
        self.assertIsNone(turns_fault(((), (), 0)))
        self.assertIsNone(turns_fault((OLD, (BOX, old(6)), 0)))
        self.assertIsNone(turns_fault(((gone(0), 7, old(3), PAIR, old(0), (), BOX, 5), (PAIR, 7, old(3)), 0)))
        self.same(turns_fault((OLD, (BOX, old(6)), 2)), old(6))
        self.same(turns_fault((OLD, (BOX, old(5), BOX, old(6)), 4)), old(5))
        self.same(turns_fault((OLD, (BOX, old(7)), 0)), old(7))
        self.same(turns_fault((OLD, (BOX, old(8)), 0)), old(8))
        self.same(turns_fault((OLD, (BOX, old(-1)), 0)), old(-1))
        self.same(turns_fault(((), (BOX, old(0)), 0)), old(0))
        self.same(turns_fault(((PAIR, 7, old(1)), (), 0)), old(1))
        self.same(turns_fault(((gone(1), 7), (BOX, 5), 2)), gone(1))
        self.same(turns_fault(((gone(2), 7), (BOX, 5), 2)), gone(2))
        self.same(turns_fault(((gone(2), old(9)), (BOX, old(5)), 0)), old(5))
        self.same(turns_fault(((gone(2), old(9)), (BOX, old(0)), 0)), gone(2))
        self.same(turns_fault(((gone(0), old(9)), (BOX, old(0)), 0)), old(9))

    def test_made_whole(self):
        wanted = collect((at(3), 5, BACK), EXAMPLE)[:2]
        roots, heap = flip((at(3), 5, BACK), ((), EXAMPLE, 6))
        for _ in range(3):
            self.same(made_whole(roots, heap), wanted)
            heap = turn(heap)
        self.same(made_whole((at(3),), ((), EXAMPLE, 0)), collect((at(3),), EXAMPLE)[:2])
        self.same(made_whole((at(0), at(0)), (OLD, (BOX, old(6)), 0)), ((at(0), at(0)), (BOX, at(2), BOX, 5)))
        self.same(made_whole((at(0),), ((gone(0), 5, BOX, 3), (BOX, old(0)), 0)), ((at(0),), (BOX, at(0))))

    def drawn(self, source):
        shapes = [source.choice((2, 1, 3)) for _ in range(source.randrange(1, 12))]
        numbers, n = [], 0
        for count in shapes:
            numbers.append(n)
            n += 1 + count

        def word():
            return at(source.choice(numbers)) if source.random() < 0.5 else source.choice((1, True, (), ("name", "old")))

        heap = []
        for count in shapes:
            heap += [{1: BOX, 2: PAIR, 3: ("cell", "kept", None, 3)}[count]] + [word() for _ in range(count)]
        return tuple(heap), tuple(word() for _ in range(source.randrange(4)))

    def test_a_flip_and_turns_to_the_end_collect(self):
        source = random.Random(2)
        for _ in range(400):
            cells, roots = self.drawn(source)
            wanted = collect(roots, cells)[:2]
            led, heap = flip(roots, ((), cells, source.choice((0, len(cells)))))
            while heap[0]:
                self.assertIsNone(turns_fault(heap))
                self.same(made_whole(led, heap), wanted)
                self.assertEqual(words_of(heap), words_of(((), cells, 0)))
                items = [item for item in heap[1] if type(item) is tuple and item[:1] == ("old",)]
                if items and source.random() < 0.3:
                    _, heap = bring(source.choice(items), heap)
                else:
                    heap = turn(heap)
            if heap[1] and len(led) == len(roots):
                self.assertEqual(heap[2], len(heap[1]))
            self.assertEqual(words_of(heap), words_of(((), wanted[1], 0)))
            self.same(made_whole(led, heap), wanted)


class Runs(unittest.TestCase):
    def needed(self, code, state):
        need = ("value",) if state[0] == "back" else needs(code)[state[0]]
        value = (state[1],) if "value" in need else ()
        return (*value, *[state[2][slot] for slot in need if slot != "value"], *state[3], state[4])

    def plan(self, source):
        kind = source.randrange(5)
        if kind == 0:
            return ()
        if kind == 1:
            return ((100, True),)
        return tuple((source.choice((0, 0, 1, 2, 5, 100)), source.random() < 0.4) for _ in range(source.randrange(1, 14)))

    def check(self, program, inputs, source, steps):
        code = compiled(program)
        need = max([one + two for _, one, two in making_words(code, inputs, (*WIDE, ()), steps)], default=0)
        deep = machine_run(code, inputs, (*WIDE, ()), steps)[5]
        for limits in (WIDE, (need, deep), (max(0, need - 1), deep), (need + 3, max(0, deep - 1))):
            plan = self.plan(source)
            told = machine_run(code, inputs, (*limits, ()), steps)
            self.assertEqual(repr(turns_run(code, inputs, *limits, plan, steps)), repr(told[:4]))
            self.follow(code, inputs, limits, plan, told, source)

    def follow(self, code, inputs, limits, plan, told, source):
        state = turns_begin(code, inputs)
        for k in range(told[2]):
            after = turns_step(code, *limits, plan, state)
            if after[0] == "ended":
                self.assertEqual(after[1:], told[:2])
                self.assertEqual(k + 1, told[2])
                self.assertIsNone(turns_after(code, inputs, *limits, plan, k + 1))
                return
            state = after[1]
            self.assertIsNone(turns_fault(state[5]))
            self.assertFalse([item for item in (state[1], *state[2], *state[3], state[4]) if type(item) is tuple and item[:1] == ("old",)])
            if source.random() < 0.1:
                other = state_after(code, inputs, (*limits, ()), k + 1)
                self.assertEqual((state[0], *state[6:]), (other[0], *other[6:]))
                whole = made_whole(self.needed(code, state), state[5])
                self.assertEqual(repr(whole), repr(plain_heap(self.needed(code, other), other[5])))
                whole = made_whole(self.needed(code, state), turns_after(code, inputs, *limits, plan, k + 1)[5])
                self.assertEqual(repr(whole), repr(plain_heap(self.needed(code, other), other[5])))

    def test_begin(self):
        code = compiled(programs()[0][1])
        self.assertEqual(turns_begin(code, (1,)), (code[3], ("none",), (), (), (), ((), (), 0), (1,), (), 0))

    def test_samples(self):
        source = random.Random(9)
        for _, program, inputs in programs():
            self.check(program, inputs, source, 200)

    def test_drawn_programs(self):
        source = random.Random(10)
        made = plain_meaning.Programs(12)
        for _ in range(60):
            program = renumbered(made.program(source.randrange(2, 6)))
            if node_count(program) <= 300:
                self.check(program, tuple(range(source.randrange(3))), source, 200)

    def test_a_flip_is_done_when_the_plan_says_so(self):
        """The loop of pairs makes garbage: without a flip it stays, with flips and turns it goes."""
        program = [sample for sample in programs() if sample[0] == "endless pairs"][0][1]
        code = compiled(program)
        self.assertGreater(words_of(turns_after(code, (), *WIDE, (), 400)[5]), 60)
        self.assertGreater(words_of(turns_after(code, (), *WIDE, ((100, False),), 400)[5]), 60)
        self.assertLess(words_of(turns_after(code, (), *WIDE, ((100, True),), 400)[5]), 12)
        self.assertLess(words_of(turns_after(code, (), *WIDE, ((0, False), (0, False), (2, True)), 400)[5]), 30)

    def test_words_that_lack(self):
        program = [sample for sample in programs() if sample[0] == "endless pairs"][0][1]
        code = compiled(program)
        for room in range(12):
            told = machine_run(code, (), (room, 20000, ()), 400)
            for plan in ((), ((1, True),), ((0, True),), ((3, False),), ((0, True), (0, False))):
                self.assertEqual(turns_run(code, (), room, 20000, plan, 400), told[:4])
                if told[0] == ("open",):
                    self.assertLessEqual(words_of(turns_after(code, (), room, 20000, plan, 400)[5]), room)

    def test_used_words_are_never_above_room(self):
        source = random.Random(4)
        for _, program, inputs in programs():
            code = compiled(program)
            need = max([one + two for _, one, two in making_words(code, inputs, (*WIDE, ()), 150)], default=0)
            state = turns_begin(code, inputs)
            plan = self.plan(source)
            for _ in range(150):
                told = turns_step(code, need + 2, 20000, plan, state)
                if told[0] == "ended":
                    break
                state = told[1]
                self.assertLessEqual(words_of(state[5]), need + 2)

    def test_headers_are_those_of_cells(self):
        self.assertEqual(plain_machine.size(PAIR), size(PAIR))


if __name__ == "__main__":
    unittest.main()
