"""[64] to [68]: states, rows, calls, and what comes back to frames."""

import os
import sys
import unittest

sys.path.insert(0, os.path.dirname(os.path.abspath(__file__)))

import plain_machine
from samples import programs

from keptrest.codegen import compiled
from keptrest.machine import begin, frames_of, is_machine_code, machine_step, sound_fault

NONE, GONE = ("none",), ("gone",)
WIDE = (1000, 1000, ())
F, G, W = (0,), (1,), (2,)
PAIR = ("cell", "pair", None, 2)
BOX = ("cell", "box", None, 1)


def at(number):
    return ("at", number)


def fn(place, count):
    return ("cell", "fn", place, count)


def kept(count):
    return ("cell", "kept", None, count)


def wind(place):
    return ("cell", "wind", place, 3)


BACK_POINT = 22
ROWS = (
    ("load", True, 1), ("from", 1, 2), ("to", 2, 3), ("open", 0, 4), ("fill", 0, 5), ("prim", "add", (5,), (0, 1), 6),
    ("make", ("fn",), F, (1, 1), (0,), 7), ("make", ("fn",), G, (), (), 8), ("make", ("box",), W, (0,), (0,), 9),
    ("make", ("pair",), W, (0, 1), (1,), 10), ("test", 11, 12), ("push", 22, (1, 0), 12), ("go", 13, (1, 1, 0)), ("back",),
    ("call", (7,), (0, 1)), ("known", (7,), F, (0, 1)), ("keep", (7,), 0), ("wind", (7,), (0, 1, 2)), ("stop", "kind", (7,)),
    ("call", (7,), (0,)), ("call", (7,), (0, 1, 1, 1)), ("known", (7,), G, (0,)), ("back",), ("prim", "show", (5,), (0,), 0),
    ("prim", "ask", (5,), (), 0), ("prim", "more", (5,), (), 0), ("prim", "first", (5,), (0,), 0), ("prim", "put second", (5,), (0, 1), 0),
    ("prim", "alike", (5,), (0, 1), 0), ("prim", "same", (5,), (0, 1), 0), ("to", 4, 0), ("prim", "is function", (5,), (0,), 0),
)
# F has one parameter and a rest, both boxed; G has none.
ENTRIES = ((F, 1, True, (True, True), (("handed", 1), ("own", 1), ("handed", 0), ("own", 0)), 22),
           (G, 0, False, (False,), (), 22))
CODE = (ROWS, (None,) * len(ROWS), ENTRIES, 0)


class Case(unittest.TestCase):
    def state(self, point, value=NONE, window=(), stack=(), winds=(), heap=(), inputs=(), output=(), made=0):
        return (point, value, window, stack, winds, heap, inputs, output, made)

    def on(self, before, after, limits=WIDE):
        told = machine_step(CODE, limits, before)
        self.assertEqual(told[0], "on", told)
        self.assertEqual(repr(plain_machine.normal(told[1])), repr(plain_machine.normal(after)))
        plain = plain_machine.step(CODE, limits, before)
        self.assertEqual(repr(plain_machine.normal(plain[1])), repr(plain_machine.normal(after)))

    def ended(self, before, ending, limits=WIDE, output=()):
        self.assertEqual(repr(machine_step(CODE, limits, before)), repr(("ended", ending, output)))
        self.assertEqual(repr(plain_machine.step(CODE, limits, before)), repr(("ended", ending, output)))


class Rows(Case):
    def test_the_code_is_one(self):
        self.assertTrue(is_machine_code(CODE))

    def test_begin(self):
        self.assertEqual(begin(CODE, (1, 2)), (0, NONE, (), (), (), (), (1, 2), (), 0))
        self.assertEqual(begin((*CODE[:3], 9), ()), (9, NONE, (), (), (), (), (), (), 0))

    def test_moving_words(self):
        s = self.state
        self.on(s(0, 5, (1,)), s(1, True, (1,)))
        self.on(s(1, 5, (1, (), GONE)), s(2, (), (1, (), GONE)))
        self.on(s(2, 5, (1, 2, 3, 4)), s(3, 5, (1, 2, 5, 4)))
        self.on(s(2, 5, ()), s(3, 5, (GONE, GONE, 5)))
        self.on(s(30, 5, (1,)), s(0, 5, (1, GONE, GONE, GONE, 5)))
        self.on(s(12, 5, (1, 2)), s(13, 5, (2, 2, 1)))

    def test_boxes(self):
        s = self.state
        self.on(s(3, 1, (at(0),), heap=(BOX, 7)), s(4, 7, (at(0),), heap=(BOX, 7)))
        self.on(s(4, 1, (at(0),), heap=(BOX, 7)), s(5, (), (at(0),), heap=(BOX, 1)))
        self.on(s(4, at(0), (at(0),), heap=(BOX, 7)), s(5, (), (at(0),), heap=(BOX, at(0))))

    def test_broken(self):
        s = self.state
        for word in (5, (), at(0), ("name", "at")):
            self.ended(s(3, 1, (word,), heap=(PAIR, 1, 2)), ("broken", 3))
            self.ended(s(4, 1, (word,), heap=(PAIR, 1, 2)), ("broken", 4))
        for word in (5, at(0), at(1)):
            self.ended(s(15, 1, (word, 2), heap=(fn(G, 0), PAIR, 1, 2)), ("broken", 15))
        for word in (5, at(0), at(3)):
            self.ended(s(21, 1, (word, 2), heap=(PAIR, 1, 2, fn(F, 0))), ("broken", 21))
        self.ended(s(13, 5, stack=(("point", "inside", W),)), ("broken", 13))
        self.ended(s("back", 5, stack=(("point", "inside", W),)), ("broken", "back"))

    def test_prims(self):
        s = self.state
        self.on(s(5, 1, (3, 4)), s(6, 7, (3, 4)))
        self.ended(s(5, 1, (3, True)), ("trap", "kind", (5,)))
        self.ended(s(5, 1, (10 ** 30 - 1, 1)), ("trap", "range", (5,)))
        self.on(s(26, 1, (at(0),), heap=(PAIR, True, 2)), s(0, True, (at(0),), heap=(PAIR, True, 2)))
        self.ended(s(26, 1, (at(0),), heap=(fn(F, 2), 1, 2)), ("trap", "kind", (5,)))
        self.on(s(27, 1, (at(0), at(0)), heap=(PAIR, 1, 2)), s(0, (), (at(0), at(0)), heap=(PAIR, 1, at(0))))
        self.ended(s(27, 1, (5, 6)), ("trap", "kind", (5,)))
        heap = (PAIR, 1, at(0), PAIR, 1, at(6), PAIR, 1, at(3), fn(G, 0))
        self.on(s(28, 1, (at(0), at(3)), heap=heap), s(0, True, (at(0), at(3)), heap=heap))
        self.on(s(29, 1, (at(0), at(3)), heap=heap), s(0, False, (at(0), at(3)), heap=heap))
        self.on(s(29, 1, (at(9), at(9)), heap=heap), s(0, True, (at(9), at(9)), heap=heap))
        self.on(s(29, 1, (1, True), heap=()), s(0, False, (1, True)))
        self.on(s(31, 1, (at(9),), heap=heap), s(0, True, (at(9),), heap=heap))
        self.on(s(31, 1, (at(0),), heap=heap), s(0, False, (at(0),), heap=heap))
        self.on(s(31, 1, (at(0),), heap=(kept(1), ())), s(0, True, (at(0),), heap=(kept(1), ())))

    def test_showing_and_asking(self):
        s = self.state
        self.on(s(23, 1, (True,), output=("x",)), s(0, (), (True,), output=("x", "#yes")))
        heap = (PAIR, at(3), at(0), fn(G, 0))
        self.on(s(23, 1, (at(0),), heap=heap), s(0, (), (at(0),), heap=heap, output=("@0=(#function . @0)",)))
        self.on(s(24, 1, inputs=(True, 1)), s(0, True, inputs=(1,)))
        self.ended(s(24, 1, output=("x",)), ("trap", "input", (5,)), output=("x",))
        self.on(s(25, 1, inputs=(False,)), s(0, True, inputs=(False,)))
        self.on(s(25, 1), s(0, False))

    def test_makings(self):
        s = self.state
        self.on(s(6, 1, (5, 6, 7)), s(7, at(0), (5, GONE, GONE), heap=(fn(F, 2), 6, 6), made=1))
        self.on(s(7, 1, (5, 6), made=4), s(8, at(0), (GONE, GONE), heap=(fn(G, 0),), made=5))
        self.on(s(8, 1, (at(0), 6), heap=(PAIR, 1, 2)), s(9, at(3), (at(0), GONE), heap=(PAIR, 1, 2, BOX, at(0)), made=1))
        self.on(s(9, 1, (5, 6, 7)), s(10, at(0), (GONE, 6, GONE), heap=(PAIR, 5, 6), made=1))

    def test_room(self):
        s = self.state
        before = s(9, at(3), (5, 6, at(3)), heap=(PAIR, 1, 2, BOX, 9))
        self.on(before, s(10, at(0), (GONE, 6, GONE), heap=(PAIR, 5, 6), made=1), (2, 0, ()))
        self.ended(before, ("trap", "memory", W), (1, 0, ()))
        self.ended(s(9, 1, (at(0), 6), heap=(PAIR, 1, 2)), ("trap", "memory", W), (3, 0, ()))
        self.on(s(9, 1, (at(0), 6), heap=(PAIR, 1, 2)), s(10, at(3), (GONE, 6), heap=(PAIR, 1, 2, PAIR, at(0), 6), made=1), (4, 0, ()))
        heap = (BOX, 1, fn(G, 0), PAIR, 1, 2)
        stack = (at(0), ("point", 9), at(2), ("point", "ended", W))
        self.ended(s(9, 1, (5, 6), stack, heap=heap), ("trap", "memory", W), (3, 0, ()))
        self.on(s(9, 1, (5, 6), stack, heap=heap),
                s(10, at(3), (GONE, 6), stack, heap=(BOX, 1, fn(G, 0), PAIR, 5, 6), made=1), (4, 0, ()))

    def test_schedules(self):
        s = self.state
        before = s(9, at(3), (5, 6, at(3)), heap=(PAIR, 1, 2, BOX, 9), made=3)
        full = s(10, at(5), (GONE, 6, GONE), heap=(PAIR, 1, 2, BOX, 9, PAIR, 5, 6), made=4)
        less = s(10, at(0), (GONE, 6, GONE), heap=(PAIR, 5, 6), made=4)
        for schedule, after in (((), full), ((2, 4), full), ((3,), less), ((0, 3, 9), less)):
            self.on(before, after, (1000, 0, schedule))

    def test_tests(self):
        for value in (True, 0, (), ("name", "no"), 1):
            self.on(self.state(10, value), self.state(11, value))
        self.on(self.state(10, False), self.state(12, False))

    def test_push(self):
        s = self.state
        self.on(s(11, 7, (1, at(0)), (3, ("point", 9)), heap=(BOX, 4)),
                s(12, 7, (1, at(0)), (3, ("point", 9), at(0), 1, ("point", 22)), heap=(BOX, 4)))

    def test_stop(self):
        self.ended(self.state(18, 7, output=("a",)), ("trap", "kind", (7,)), output=("a",))


class Calls(Case):
    def test_functions(self):
        s = self.state
        heap = (fn(F, 2), 8, at(0))
        boxes = (BOX, 7, BOX, ())
        self.on(s(14, 1, (at(0), 7), heap=heap), s(22, NONE, (at(5), at(0), at(3), 8), heap=heap + boxes, made=2))
        rest = (PAIR, 7, (), PAIR, 7, at(3), BOX, 7, BOX, at(6))
        self.on(s(20, 1, (at(0), 7), heap=heap), s(22, NONE, (at(11), at(0), at(9), 8), heap=heap + rest, made=4))
        self.on(s(15, 1, (at(0), 7), heap=heap), s(22, NONE, (at(5), at(0), at(3), 8), heap=heap + boxes, made=2))
        self.on(s(19, 1, (at(0),), heap=(fn(G, 0),)), s(22, NONE, (), heap=(fn(G, 0),)))
        self.on(s(21, 1, (at(0),), heap=(fn(G, 0),)), s(22, NONE, (), heap=(fn(G, 0),)))

    def test_counts(self):
        self.ended(self.state(19, 1, (at(0),), heap=(fn(F, 2), 1, 2)), ("trap", "count", (7,)))
        self.ended(self.state(14, 1, (at(0), 1), heap=(fn(G, 0),)), ("trap", "count", (7,)))
        self.ended(self.state(14, 1, (at(0), 1), (1, 1, 1, ("point", 9)), heap=(fn(G, 0),)), ("trap", "count", (7,)), (0, 0, ()))

    def test_deep(self):
        s = self.state
        stack = (1, ("point", 9), ("point", "inside", W))
        heap = (fn(G, 0),)
        self.on(s(19, 1, (at(0),), stack, heap=heap), s(22, NONE, (), stack, heap=heap), (9, 3, ()))
        self.ended(s(19, 1, (at(0),), stack, heap=heap), ("trap", "deep", (7,)), (9, 2, ()))
        self.ended(s(21, 1, (at(0),), stack, heap=heap), ("trap", "deep", (7,)), (9, 2, ()))
        self.ended(s(14, 1, (at(0), 5), stack, heap=(fn(F, 2), 1, 2)), ("trap", "deep", (7,)), (0, 2, ()))
        self.ended(s(14, 1, (at(0), 5), stack, heap=(fn(F, 2), 1, 2)), ("trap", "memory", (7,)), (0, 3, ()))

    def test_room_for_rests_and_boxes(self):
        s = self.state
        before = s(20, 1, (at(0), 7), heap=(fn(F, 2), 8, 9))
        for room in range(9):
            self.ended(before, ("trap", "memory", (7,)), (room, 9, ()))
        told = machine_step(CODE, (9, 9, ()), before)
        self.assertEqual(told[0], "on")
        told = machine_step(CODE, (9, 9, (0, 1, 2, 3)), before)
        self.assertEqual(plain_machine.normal(told[1]), plain_machine.normal(plain_machine.step(CODE, (9, 9, (0, 1, 2, 3)), before)[1]))

    def test_no_function(self):
        for word in (5, (), True, at(0), at(3), at(5)):
            self.ended(self.state(14, 1, (word, 2), heap=(PAIR, 1, 2, BOX, 1, wind(W), 1, 2, ())), ("trap", "no function", (7,)))

    def test_kept_cells(self):
        s = self.state
        heap = (kept(4), (), at(0), 5, ("point", 22))
        self.on(s(14, 1, (at(0), 7), (3, ("point", 9)), heap=heap), s("back", 7, (), (at(0), 5, ("point", 22)), heap=heap))
        self.ended(s(19, 1, (at(0),), heap=heap), ("trap", "count", (7,)))
        self.ended(s(20, 1, (at(0), 7), heap=heap), ("trap", "count", (7,)))
        self.on(s(14, 1, (at(0), 7), (3, ("point", 9)), heap=heap), s("back", 7, (), (at(0), 5, ("point", 22)), heap=heap), (0, 0, ()))

    def test_keep(self):
        s = self.state
        stack = (3, ("point", 22))
        heap = (kept(1), ())
        self.on(s(16, 1, (at(0), 7), stack, heap=heap), s("back", at(2), (), (), heap=heap + (kept(3), (), 3, ("point", 22)), made=1))
        self.ended(s(16, 1, (5, 7), stack), ("trap", "no function", (7,)))
        self.ended(s(16, 1, (5, 7), stack), ("trap", "no function", (7,)), (4, 0, ()))
        self.ended(s(16, 1, (5, 7), stack), ("trap", "memory", (7,)), (3, 0, ()))
        self.ended(s(16, 1, (at(0), 7), stack, heap=(fn(G, 0),)), ("trap", "count", (7,)), (5, 0, ()))
        self.ended(s(16, 1, (at(0), 7), stack, heap=(fn(G, 0),)), ("trap", "memory", (7,)), (4, 0, ()))

    def test_wind(self):
        s = self.state
        heap = (fn(G, 0),)
        self.on(s(17, 1, (at(0), 7, 8), (("point", 9),), heap=heap), s(22, NONE, (), (("point", 9), at(0), 7, 8, ("point", "began", (7,))), heap=heap))
        self.ended(s(17, 1, (5, 7, 8), heap=heap), ("trap", "no function", (7,)))
        self.ended(s(17, 1, (at(0), 7, 8), heap=heap), ("trap", "deep", (7,)), (9, 3, ()))


class GoingOn(Case):
    """Winds that are left and gone into ([37], [67])."""

    OUTER = (wind(W), at(12), at(12), ())
    INNER = (wind((3,)), at(12), at(12), at(0))
    OTHER = (wind((4,)), at(12), at(12), at(0))
    HEAP = OUTER + INNER + OTHER + (fn(G, 0),)

    def heap(self, winds):
        return self.HEAP + (kept(3), winds, 9, ("point", 22))

    K = at(13)

    def test_the_same_winds(self):
        s = self.state
        for winds in ((), at(0), at(4)):
            heap = self.heap(winds)
            self.on(s(14, 1, (self.K, 7), (1, ("point", 9)), winds, heap), s("back", 7, (), (9, ("point", 22)), winds, heap))

    def test_leaving(self):
        s = self.state
        for winds, target, rest, place in ((at(0), (), (), (7,)), (at(4), (), at(0), (7,)), (at(4), at(0), at(0), (7,)), (at(4), at(8), at(0), (7,))):
            heap = self.heap(target)
            self.on(s(14, 1, (self.K, 7), (1, ("point", 9)), winds, heap),
                    s(22, NONE, (), (self.K, 7, ("point", "leaving", place)), rest, heap))

    def test_entering(self):
        s = self.state
        for winds, target, wind_word in (((), at(0), at(0)), ((), at(4), at(0)), (at(0), at(4), at(4)), (at(0), at(8), at(8))):
            heap = self.heap(target)
            self.on(s(14, 1, (self.K, 7), (1, ("point", 9)), winds, heap),
                    s(22, NONE, (), (self.K, 7, wind_word, ("point", "entering", (7,))), winds, heap))

    def test_calls_on_the_way_are_at_the_place_of_the_wind(self):
        s = self.state
        heap = list(self.heap(()))
        heap[2] = 5
        self.ended(s(14, 1, (self.K, 7), (), at(0), tuple(heap)), ("trap", "no function", W))
        heap = list(self.heap(at(4)))
        heap[5] = 5
        self.ended(s(14, 1, (self.K, 7), (), at(0), tuple(heap)), ("trap", "no function", (3,)))
        self.ended(s(14, 1, (self.K, 7), (), at(0), self.heap(at(4))), ("trap", "deep", (3,)), (99, 3, ()))
        self.ended(s(14, 1, (self.K, 7), (), at(4), self.heap(at(0))), ("trap", "deep", (3,)), (99, 2, ()))


class Back(Case):
    def test_end(self):
        self.ended(self.state(13, 5, output=("a",)), ("end", "5"), output=("a",))
        self.ended(self.state("back", at(0), heap=(PAIR, 1, at(0))), ("end", "@0=(1 . @0)"))
        self.ended(self.state("back", True), ("end", "#yes"))

    def test_points(self):
        s = self.state
        for point in (13, "back"):
            self.on(s(point, 5, (1, 2), (8, ("point", 9), 1, at(0), ("point", 22)), heap=(BOX, 1)),
                    s(22, 5, (1, at(0)), (8, ("point", 9)), heap=(BOX, 1)))
            self.on(s(point, 5, (1, 2), (("point", 3), ("point", 22))), s(22, 5, (), (("point", 3),)))

    def test_began(self):
        s = self.state
        heap = (fn(G, 0),)
        stack = (1, ("point", 9), 3, at(0), 4, ("point", "began", W))
        self.on(s(13, 5, (7,), stack, (), heap),
                s(22, NONE, (), (1, ("point", 9), ("point", "inside", W)), at(1), heap + (wind(W), 3, 4, ()), made=1))
        self.ended(s(13, at(1), (7,), stack, (), heap + (PAIR, 1, 2)), ("trap", "memory", W), (5, 9, ()))
        self.on(s(13, at(1), (7,), stack, (), heap + (PAIR, 1, 2)),
                s(22, NONE, (), (1, ("point", 9), ("point", "inside", W)), at(4), heap + (PAIR, 1, 2, wind(W), 3, 4, ()), made=1), (6, 9, ()))
        self.ended(s(13, 5, (7,), (3, 6, 4, ("point", "began", W)), (), heap), ("trap", "no function", W))
        self.ended(s(13, 5, (7,), stack, (), heap), ("trap", "deep", W), (99, 2, ()))

    def test_inside(self):
        s = self.state
        heap = (wind(W), 3, at(8), at(4), wind((3,)), 3, 3, (), fn(G, 0))
        self.on(s("back", 5, (7,), (("point", "inside", W),), at(0), heap), s(22, NONE, (), (5, ("point", "ended", W)), at(4), heap))
        self.ended(s("back", 5, (7,), (("point", "inside", (3,)),), at(4), heap), ("trap", "no function", (3,)))

    def test_ended(self):
        s = self.state
        self.on(s(13, 5, (7,), (1, ("point", 9), True, ("point", "ended", W))), s("back", True, (), (1, ("point", 9))))

    def test_leaving_and_entering(self):
        s = self.state
        heap = (wind(W), at(5), at(5), (), fn(F, 0), fn(G, 0), kept(3), (), 9, ("point", 22))
        stack = (at(6), 8, ("point", "leaving", (7,)))
        self.on(s(13, 5, (1,), stack, (), heap), s("back", 8, (), (9, ("point", 22)), (), heap))
        self.on(s(13, 5, (1,), stack, at(0), heap), s(22, NONE, (), (at(6), 8, ("point", "leaving", (7,))), (), heap))
        heap = heap[:7] + (at(0),) + heap[8:]
        self.on(s(13, 5, (1,), (at(6), 8, at(0), ("point", "entering", (7,))), (), heap), s("back", 8, (), (9, ("point", 22)), at(0), heap))
        self.on(s(13, 5, (1,), stack, (), heap), s(22, NONE, (), (at(6), 8, at(0), ("point", "entering", (7,))), (), heap))


class Frames(unittest.TestCase):
    def test_frames(self):
        self.assertEqual(frames_of(()), ())
        stack = (5, at(0), ("point", 9), ("point", "inside", (0, 1)))
        self.assertEqual(frames_of(stack), ((("point", 9), (5, at(0))), (("point", "inside", (0, 1)), ())))
        self.assertEqual(frames_of((1, True, (), ("point", "began", ()))), ((("point", "began", ()), (1, True, ())),))

    def test_codes_of_programs_are_sound(self):
        for name, program, _ in programs():
            self.assertIsNone(sound_fault(compiled(program)), name)


if __name__ == "__main__":
    unittest.main()
