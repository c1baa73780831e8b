"""[84] to [88]: the linked machine."""

import os
import random
import sys
import unittest

sys.path.insert(0, os.path.dirname(os.path.abspath(__file__)))

import plain_machine
import plain_meaning
from samples import WIDE, program, programs

from keptrest.codegen import compiled
from keptrest.core import node_count
from keptrest.linked import (link_map, linked_after, linked_begin, linked_run, linked_step, linked_words, shared_words,
                             unlinked)
from keptrest.machine import begin, machine_step, needs
from keptrest.names import renumbered
from keptrest.runs import machine_run, state_after

NONE, GONE = ("none",), ("gone",)
PAIR = ("cell", "pair", None, 2)
BOX = ("cell", "box", None, 1)
W = (2,)


def at(number):
    return ("at", number)


def frame(back, count):
    return ("cell", "frame", back, count)


def kept():
    return ("cell", "kept", None, 2)


def fn(place, count):
    return ("cell", "fn", place, count)


ROWS = (("load", 1, 1), ("push", 3, (1, 0), 2), ("from", 0, 3), ("back",), ("push", 3, (1, 0), 3), ("keep", (7,), 0), ("call", (7,), (0, 1)),
        ("wind", (7,), (0, 1, 1)), ("make", ("pair",), (5,), (0, 0), (), 3),
        ("load", 1, 3))
ENTRIES = (((0,), 1, False, (True, False), (("handed", 0),), 3), ((1,), 0, False, (False,), (), 0))
CODE = (ROWS, (None,) * len(ROWS), ENTRIES, 0)


def size(header):
    return header[3] + 1 if header[1] == "fn" else header[3]


class Case(unittest.TestCase):
    def state(self, point, value=NONE, window=(), link=(), winds=(), heap=(), inputs=(), output=(), made=0):
        return (point, value, window, link, winds, heap, inputs, output, made)

    def normal(self, state):
        """With the cells in the order in which they are met, garbage left out."""
        words = [state[1], *state[2], state[3], state[4]]
        order = plain_machine.met(words, state[5])
        places, cells = {}, []
        for n in order:
            places[n] = len(cells)
            cells += [state[5][n]] + plain_machine.parts(state[5], n)

        def led(word):
            return at(places[word[1]]) if plain_machine.is_at(word) else word

        return (state[0], led(state[1]), tuple(map(led, state[2])), led(state[3]), led(state[4]), tuple(map(led, cells)), *state[6:])

    def on(self, before, after, room=1000, schedule=()):
        told = linked_step(CODE, room, schedule, before)
        self.assertEqual(told[0], "on", told)
        self.assertEqual(repr(self.normal(told[1])), repr(self.normal(after)))
        return told[1]

    def ended(self, before, ending, room=1000, output=()):
        self.assertEqual(linked_step(CODE, room, (), before), ("ended", ending, output))


class Steps(Case):
    def test_example(self):
        """[84]."""
        heap = (PAIR, 1, 2, BOX, 3, BOX, 3, frame(("point", 9), 3), 5, at(0), ())
        self.assertEqual(unlinked(heap, at(7)), (5, at(0), ("point", 9)))
        self.assertEqual(unlinked(heap, ()), ())
        heap += (frame(("point", "inside", W), 1), at(7), frame(("point", 4), 2), True, at(11))
        self.assertEqual(unlinked(heap, at(13)), (5, at(0), ("point", 9), ("point", "inside", W), True, ("point", 4)))

    def test_begin(self):
        self.assertEqual(linked_begin(CODE, (1,)), (0, NONE, (), (), (), (), (1,), (), 0))

    def test_push(self):
        s = self.state
        heap = (frame(("point", "inside", W), 1), ())
        self.on(s(4, 5, (8, 9), at(0), heap=heap), s(3, 5, (8, 9), at(2), heap=heap + (frame(("point", 3), 3), 9, 8, at(0)), made=1))
        self.ended(s(4, 5, (8, 9), at(0), heap=heap), ("trap", "memory", ()), 3)
        self.on(s(4, 5, (8, 9), at(0), heap=heap), s(3, 5, (8, 9), at(2), heap=heap + (frame(("point", 3), 3), 9, 8, at(0)), made=1), 4)

    def test_what_a_push_that_collects_keeps(self):
        """Its words, what the row at NEXT needs, LINK and WINDS."""
        s = self.state
        heap = (BOX, 1, BOX, 2, BOX, 3, BOX, 4)
        before = s(1, at(4), (at(0), at(2), at(6)), heap=heap)
        told = linked_step(CODE, 6, (), before)[1]
        self.assertEqual(self.normal(told), self.normal(s(2, GONE, (at(0), at(2), GONE), at(4), heap=heap[:4] + (frame(("point", 3), 3), at(2), at(0), ()), made=1)))
        told = linked_step(CODE, 1000, (0,), s(4, at(4), (at(0), at(2), at(6)), heap=heap))[1]
        self.assertEqual(self.normal(told), self.normal(s(3, at(4), (at(0), at(2), GONE), at(6), heap=heap[:6] + (frame(("point", 3), 3), at(2), at(0), ()), made=1)))
        self.ended(before, ("trap", "memory", ()), 4)

    def test_back(self):
        s = self.state
        heap = (frame(("point", 2), 3), 7, at(4), (), frame(("point", "ended", W), 2), True, at(0))
        self.on(s(3, 5, (1,), at(0), heap=heap[:4] + (BOX, 1)), s(2, 5, (7, at(4)), (), heap=heap[:4] + (BOX, 1)))
        self.on(s(3, 5, (1,), at(4), heap=heap), s("back", True, (), at(0), heap=heap))
        self.ended(s("back", 5, output=("x",)), ("end", "5"), output=("x",))
        self.ended(s(3, 5, link=at(0), heap=(frame(("point", "inside", W), 1), ())), ("broken", 3))

    def test_frames_that_are_taken_off_stay_as_they_are(self):
        heap = (frame(("point", 2), 3), 7, 8, ())
        told = linked_step(CODE, 1000, (), self.state(3, 5, (1,), at(0), heap=heap))[1]
        self.assertEqual(told[5], heap)

    def test_keep_and_calls_of_kept_cells(self):
        s = self.state
        heap = (kept(), (), (), frame(("point", 2), 1), ())
        self.on(s(5, 5, (at(0),), at(3), heap=heap), s("back", at(5), (), (), heap=heap + (kept(), (), at(3)), made=1))
        self.on(s(6, 5, (at(0), 9), at(3), heap=heap), s("back", 9, (), (), heap=heap))
        heap = (kept(), (), at(3), frame(("point", 2), 1), ())
        self.on(s(6, 5, (at(0), 9), heap=heap), s("back", 9, (), at(3), heap=heap))
        self.ended(s(6, 5, (at(0), 9), heap=(fn((1,), 0),)), ("trap", "count", (7,)))
        self.ended(s(6, 5, (8, 9)), ("trap", "no function", (7,)))
        self.ended(s(5, 5, (at(0),), at(1), heap=(fn((0,), 0), frame(("point", 2), 1), ())), ("trap", "memory", (7,)), 3)

    def test_deep_is_not_looked_at(self):
        heap, link = (fn((1,), 0),), ()
        for _ in range(50):
            heap, link = heap + (frame(("point", 2), 3), 1, 2, link), at(len(heap))
        s = self.state
        rows = ROWS[:6] + (("call", (7,), (0,)),) + ROWS[7:]
        told = linked_step((rows, *CODE[1:]), 1000, (), s(6, 5, (at(0),), link, heap=heap))
        self.assertEqual(told[0], "on")

    def test_frames_of_winds(self):
        s = self.state
        heap = (fn((1,), 0),)
        began = frame(("point", "began", (7,)), 4)
        self.on(s(7, 5, (at(0), 1), heap=heap), s(0, NONE, (), at(1), heap=heap + (began, at(0), 1, 1, ()), made=1))
        self.ended(s(7, 5, (at(0), 1), heap=heap), ("trap", "memory", (7,)), 4)
        wind = ("cell", "wind", W, 3)
        heap = (fn((1,), 0), frame(("point", "began", W), 4), 1, at(0), 2, ())
        self.on(s("back", 5, (), at(1), heap=heap),
                s(0, NONE, (), at(10), at(6), heap + (wind, 1, 2, (), frame(("point", "inside", W), 1), ()), made=2))
        self.ended(s("back", 5, (), at(1), heap=heap), ("trap", "memory", W), 8)
        told = linked_step(CODE, 9, (), s("back", 5, (), at(1), heap=heap))
        self.assertEqual(told[0], "on")
        heap = (fn((1,), 0), wind, at(0), at(0), (), frame(("point", "inside", W), 1), ())
        self.on(s("back", 5, (), at(5), at(1), heap), s(0, NONE, (), at(7), (), heap + (frame(("point", "ended", W), 2), 5, ()), made=1))

    def test_going_on(self):
        s = self.state
        wind = ("cell", "wind", W, 3)
        heap = (fn((1,), 0), wind, at(0), at(0), (), kept(), (), ())
        leaving = frame(("point", "leaving", (7,)), 3)
        self.on(s(6, 5, (at(5), 9), (), at(1), heap), s(0, NONE, (), at(8), (), heap + (leaving, at(5), 9, ()), made=1))
        heap = heap[:6] + (at(1), ())
        entering = frame(("point", "entering", (7,)), 4)
        self.on(s(6, 5, (at(5), 9), (), (), heap), s(0, NONE, (), at(8), (), heap + (entering, at(5), 9, at(1), ()), made=1))
        self.on(s("back", 5, (), at(8), (), heap + (entering, at(5), 9, at(1), ())), s("back", 9, (), (), at(1), heap))

    def test_shared_words(self):
        heap = (frame(("point", 3), 3), 1, 2, (), frame(("point", 3), 3), 3, 4, at(0), kept(), (), at(4), kept(), (), at(0))
        s = self.state
        self.assertEqual(shared_words(CODE, s("back", at(8), (), (), heap=heap)), 0)
        self.assertEqual(shared_words(CODE, s("back", at(8), (), at(0), heap=heap)), 3)
        self.assertEqual(shared_words(CODE, s("back", at(8), (), at(4), heap=heap)), 6)
        self.assertEqual(shared_words(CODE, s("back", 5, (), at(4), heap=heap)), 0)
        self.assertEqual(shared_words(CODE, s("back", 5, (), (), heap=heap)), 0)
        self.assertEqual(shared_words(CODE, s(9, at(8), (at(11),), at(4), heap=heap)), 0)
        self.assertEqual(linked_words(CODE, s("back", at(8), (), (), heap=heap)), 2 + 6)
        self.assertEqual(linked_words(CODE, s("back", at(11), (), at(4), heap=heap)), 2 + 6)
        self.assertEqual(linked_words(CODE, s(9, at(8), (at(11),), (), heap=heap)), 0)
        self.assertEqual(linked_words(CODE, s("back", at(0), (), (), heap=(fn((1,), 2), 1, at(3), PAIR, 1, 2))), 3 + 2)


class Maps(Case):
    def test_linked_to_each_other(self):
        heap = (PAIR, 1, at(3), ("cell", "kept", None, 4), (), 5, at(0), ("point", 3))
        other = (kept(), (), at(3), frame(("point", 3), 3), 5, at(7), (), PAIR, 1, at(0))
        one = ("back", at(0), (1,), (5, at(0), ("point", 3)), (), heap, (1,), ("x",), 3)
        two = ("back", at(7), (), at(3), (), other, (1,), ("x",), 9)
        self.assertEqual(link_map(CODE, one, two), ((0, 7), (3, 0)))
        for at_part, value in ((0, 3), (1, 5), (1, at(0)), (3, ()), (4, at(0)), (6, ()), (6, (True,)), (7, ())):
            bent = two[:at_part] + (value,) + two[at_part + 1:]
            self.assertIsNone(link_map(CODE, one, bent), (at_part, value))
        for number, item in ((3, frame(("point", 2), 3)), (4, 6), (4, True), (5, at(0)), (8, True), (9, 5), (2, ()), (1, at(7))):
            bent = other[:number] + (item,) + other[number + 1:]
            self.assertIsNone(link_map(CODE, one, (*two[:5], bent, *two[6:])), (number, item))
        self.assertIsNone(link_map(CODE, (*one[:3], (), *one[4:]), two))
        self.assertIsNone(link_map(CODE, (*one[:5], heap[:7] + (("point", 2),), *one[6:]), two))

    def test_points_must_be_the_same(self):
        one = (3, 5, (), (), (), (), (), (), 0)
        self.assertEqual(link_map(CODE, one, one), ())
        self.assertIsNone(link_map(CODE, one, ("back",) + one[1:]))
        self.assertIsNone(link_map(CODE, one, (3, True) + one[2:]))
        self.assertEqual(link_map(CODE, (9,) + one[1:], (9, 6) + one[2:]), ())

    def test_one_to_one(self):
        heap = (PAIR, 1, 1, PAIR, 1, 1)
        one = ("back", at(0), (), (at(3), 1, ("point", 3)), (), heap, (), (), 0)
        two = ("back", at(0), (), at(6), (), heap + (frame(("point", 3), 3), at(3), 1, ()), (), (), 0)
        self.assertEqual(link_map(CODE, one, two), ((0, 0), (3, 3)))
        bent = ("back", at(0), (), at(6), (), heap + (frame(("point", 3), 3), at(0), 1, ()), (), (), 0)
        self.assertIsNone(link_map(CODE, one, bent))


class Runs(Case):
    def reached(self, code, state):
        need = ("value",) if state[0] == "back" else needs(code)[state[0]]
        words = [state[2][slot] for slot in need if slot != "value"] + ([state[1]] if "value" in need else [])
        return plain_machine.met(words + [state[3], state[4]], state[5]), words

    def check(self, term, inputs, source, steps):
        code = compiled(term)
        told = machine_run(code, inputs, (*WIDE, ()), steps)
        linked = linked_run(code, inputs, 50000, (), steps)
        self.assertEqual(linked[:3], told[:3])
        for schedule in (tuple(range(500)), tuple(range(0, 500, 3))):
            self.assertEqual(linked_run(code, inputs, 50000, schedule, steps), linked)
            self.assertEqual(linked_run(code, inputs, linked[4], schedule, steps), linked)
        if linked[4]:
            trapped = linked_run(code, inputs, linked[4] - 1, (), steps)
            self.assertEqual(trapped[0][:2], ("trap", "memory"))
            self.assertGreaterEqual(trapped[4], linked[4])
        self.follow(code, inputs, told, source)
        return told

    def follow(self, code, inputs, told, source):
        one, two = begin(code, inputs), linked_begin(code, inputs)
        for k in range(told[2]):
            self.assertIsNotNone(link_map(code, one, two))
            if source.random() < 0.2:
                self.words(code, one, two)
            after, other = machine_step(code, (*WIDE, ()), one), linked_step(code, 50000, (k, k + 7), two)
            self.assertEqual(after[0], other[0])
            if after[0] == "ended":
                self.assertEqual(after, other)
                self.assertIsNone(linked_after(code, inputs, 50000, (), k + 1))
                return
            one, two = after[1], other[1]
        self.assertEqual(self.normal(linked_after(code, inputs, 50000, (), told[2]))[0], two[0])

    def words(self, code, one, two):
        """[87], [88]: what is shared is what is spared."""
        order, _ = self.reached(code, two)
        words = linked_words(code, two)
        self.assertEqual(words, sum(size(two[5][n]) for n in order))
        need = ("value",) if one[0] == "back" else needs(code)[one[0]]
        roots = [one[2][slot] for slot in need if slot != "value"] + ([one[1]] if "value" in need else []) + list(one[3]) + [one[4]]
        block = plain_machine.words_reached(roots, one[5])
        shared = shared_words(code, two)
        self.assertGreaterEqual(shared, 0)
        self.assertLessEqual(words, block + len(one[3]))
        links = [two[3]] + [two[5][n + 2] for n in order if two[5][n][1] == "kept"]
        lengths = sum(len(unlinked(two[5], link)) for link in links)
        self.assertEqual(shared, lengths - sum(size(two[5][n]) for n in order if two[5][n][1] == "frame"))

    def test_samples(self):
        source = random.Random(2)
        for _, term, inputs in programs():
            self.check(term, inputs, source, 120)

    def test_drawn_programs(self):
        source = random.Random(3)
        made = plain_meaning.Programs(9)
        for _ in range(50):
            term = renumbered(made.program(source.randrange(2, 6)))
            if node_count(term) <= 300:
                self.check(term, tuple(range(source.randrange(3))), source, 120)

    def test_room(self):
        """[87]: with ROOM and the longest stack and 4 in the place of ROOM."""
        made = plain_meaning.Programs(10)
        cases = [(term, inputs) for _, term, inputs in programs()] + [(renumbered(made.program(4)), (1,)) for _ in range(20)]
        for term, inputs in cases:
            code = compiled(term)
            for room in (5, 12, 30, 100):
                told = machine_run(code, inputs, (room, 20000, ()), 200)
                if told[0][:2] != ("trap", "memory"):
                    linked = linked_run(code, inputs, room + told[5] + 4, (), 200)
                    self.assertEqual(linked[:3], told[:3])

    def test_kept_continuations_share_their_frames(self):
        """A continuation that is kept again and again in a deep recursion."""
        text = "(define (deep n l) (if (below 0 n) (add 1 (deep (less n 1) (pair (keep (fn (k) k)) l))) 0)) (deep 20 ())"
        code = compiled(program(text))
        many = machine_run(code, (), (*WIDE, ()), 9000)
        linked = linked_run(code, (), 50000, (), 9000)
        self.assertEqual((many[0], linked[0]), (("end", "20"), ("end", "20")))
        least = max(room for room in range(0, 1500, 10) if machine_run(code, (), (room, 20000, ()), 9000)[0] != many[0])
        self.assertLess(linked[4], least)
        self.assertGreater(shared_words(code, linked_after(code, (), 50000, (), 300)), 100)
        self.assertIsNotNone(state_after(code, (), (*WIDE, ()), 300))


if __name__ == "__main__":
    unittest.main()
