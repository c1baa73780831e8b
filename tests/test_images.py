"""[112], [113], [115]: images."""

import os
import random
import sys
import unittest

sys.path.insert(0, os.path.dirname(os.path.abspath(__file__)))

import plain_meaning
from samples import WIDE, call, changed, const, fn, iff, let, prim, programs, put, seq, var

from keptrest.images import first_unlike, image_bill, image_fault, image_of, is_image, standing_of
from keptrest.meaning import standing_after, step
from keptrest.names import renumbered
from keptrest.standings import start, weight


def thing(number):
    return ("thing", number)


LOOP = let(0, const(()), seq(put(0, fn(call(var(0)))), call(var(0))))
LOOP_IMAGE = (("eval", (1, 0, 0, 0), ((0, thing(0)),)), (), (), (("box", thing(1)), ("fn", (1, 0, 0), ((0, thing(0)),))), ())


class Numbers(unittest.TestCase):
    def test_example(self):
        for steps in (11, 14):
            self.assertEqual(image_of(standing_after(LOOP, (), WIDE, steps)), LOOP_IMAGE)
        self.assertNotEqual(image_of(standing_after(LOOP, (), WIDE, 12)), LOOP_IMAGE)
        self.assertIsNone(image_fault(LOOP, LOOP_IMAGE))

    def test_first_standings(self):
        self.assertEqual(image_of(start(const(1), (1, True))), (("eval", (), ()), (), (), (), (1, True)))
        self.assertEqual(repr(standing_of((("give", True), (), (), (), (1, True)))), repr((("give", True), (), (), (), (1, True), ())))

    def test_order_of_numbers(self):
        """CONTROL, frames from the oldest on, WINDS; then the things in their order."""
        t = thing
        control = ("eval", (), ((0, t(9)), (1, t(8))))
        frames = (("leaving", (), t(7), t(6)), ("if", (), ((3, t(5)),)), ("args", (), (t(4), 1), ((2, t(3)),)), ("set", (), t(2)),
                  ("began", (), t(1), t(0), t(10)), ("inside", ()), ("ended", (), t(11)), ("let", (), ((4, t(12)),)), ("seq", (), ((4, t(13)),)))
        store = tuple(("pair", k, t(14)) for k in range(14)) + (("box", t(16)), ("pair", 0, 0), ("pair", t(9), t(17)), ("box", 5))
        image = image_of((control, frames, t(14), store, (), ("x",)))
        order = (9, 8, 7, 6, 5, 4, 3, 2, 1, 0, 10, 11, 12, 13, 14, 16, 17)
        self.assertEqual(image[0], ("eval", (), ((0, t(0)), (1, t(1)))))
        self.assertEqual(image[1][2], ("args", (), (t(5), 1), ((2, t(6)),)))
        self.assertEqual(image[1][4], ("began", (), t(8), t(9), t(10)))
        self.assertEqual(image[2], t(14))
        self.assertEqual(image[3], tuple(("pair", k, t(14)) for k in order[:14]) + (("box", t(15)), ("pair", t(0), t(16)), ("box", 5)))

    def test_values_of_things(self):
        t = thing
        store = (("fn", (1,), ((0, t(5)), (2, 7), (3, t(4)))), ("wind", (), t(4), t(3), t(2)), ("wind", (), t(5), t(5), ()),
                 ("kept", (("ended", (), t(6)), ("entering", (), t(3), t(0), t(2))), t(1)), ("pair", t(4), t(4)), ("box", t(4)), ("pair", 1, ()))
        image = image_of((("give", t(3)), (), (), store, (), ()))
        self.assertEqual(image[3], (
            ("kept", (("ended", (), t(1)), ("entering", (), t(0), t(2), t(3))), t(4)), ("pair", 1, ()), ("fn", (1,), ((0, t(5)), (2, 7), (3, t(6)))),
            ("wind", (), t(5), t(5), ()), ("wind", (), t(6), t(0), t(3)), ("box", t(6)), ("pair", t(6), t(6))))
        self.assertEqual(image_bill(image), (2, 1, 1, 1, 2, 2 + 2 + 1 + 4 + 3 + 3 + (2 + 2 + 4)))

    def test_bills(self):
        self.assertEqual(image_bill((("give", 1), (), (), (), ())), (0, 0, 0, 0, 0, 0))
        self.assertEqual(image_bill(LOOP_IMAGE), (0, 1, 1, 0, 0, 3))


class Runs(unittest.TestCase):
    def standings(self, program, inputs, most):
        standing = start(program, inputs)
        for _ in range(most):
            yield standing
            told = step(program, WIDE, standing)
            if told[0] == "ended":
                return
            standing = told[1]

    def test_images_of_runs_are_sound(self):
        """[117]; and there and back ([113])."""
        for name, program, inputs in programs():
            for standing in self.standings(program, inputs, 120):
                image = image_of(standing)
                self.assertIsNone(image_fault(program, image), name)
                self.assertEqual(repr(image_of(standing_of(image))), repr(image))
                self.assertEqual(image_bill(image)[5], weight(standing))
                self.assertEqual(sum(image_bill(image)[:5]), len(image[3]))
                self.assertEqual(standing_of(image)[:5], image)

    def test_steps_from_images_go_on_alike(self):
        made = plain_meaning.Programs(6)
        for _ in range(40):
            program = renumbered(made.program(4))
            for standing in list(self.standings(program, (1, 2), 100))[::9]:
                one = step(program, WIDE, standing)
                other = step(program, WIDE, standing_of(image_of(standing)))
                self.assertEqual(one[0], other[0])
                if one[0] == "on":
                    self.assertEqual(image_of(one[1]), image_of(other[1]))
                    self.assertEqual(one[1][5], standing[5] + other[1][5])
                else:
                    self.assertEqual(one[1], other[1])


# let 0 (ask); seq (set 0 ..) (wind 0 (keep ..) (if ..))
BIG = let(0, prim("ask"), seq(put(0, prim("pair", const(1), const(2))), let(1, fn(var(0)), prim(
    "wind", var(1), fn(prim("keep", var(1))), fn(iff(var(1), call(var(1)), prim("more")))))))
P_LET1, P_FN, P_WIND, P_BODY, P_AFTER = (1, 1), (1, 1, 0), (1, 1, 1), (1, 1, 1, 1), (1, 1, 1, 2)
P_KEEP, P_IF, P_CALL = P_BODY + (0,), P_AFTER + (0,), P_AFTER + (0, 1)
T = thing
# things: 0 box, 1 fn, 2 kept, 3 wind, 4 wind (the REST of 3), 5 pair
THINGS = (("box", T(5)), ("fn", P_FN, ((0, T(0)),)), ("kept", (("leaving", P_CALL, T(2), 7), ("inside", P_WIND)), T(4)),
          ("wind", P_WIND, T(1), T(2), T(4)), ("wind", P_WIND, 5, (), ()), ("pair", True, T(5)))
GOOD = (("eval", P_FN, ((0, T(0)),)), (("entering", P_KEEP, T(2), T(1), T(4)), ("if", P_IF, ((1, T(1)),)), ("inside", P_WIND), ("set", (1, 0), T(0)),
                                       ("args", P_WIND, (T(1),), ((1, T(1)),))), T(3), THINGS, (1, True))


class Faults(unittest.TestCase):
    """[115]: each part, kept and broken in one place."""

    def setUp(self):
        self.good = image_of((*GOOD, ()))
        self.assertIsNone(image_fault(BIG, self.good))

    def fault(self, word, image):
        self.assertEqual(image_fault(BIG, image), word, image)
        self.assertIs(is_image(BIG, image), word is None)

    def part(self, word, at, value):
        self.fault(word, changed(self.good, at, value))

    def frames(self, word, *frames):
        """With other frames of KONT; what is not reached any more is taken away."""
        self.renumbered(word, changed(GOOD, 1, frames))

    def renumbered(self, word, parts):
        self.fault(word, image_of((*parts, ())))

    def control(self, word, control):
        self.renumbered(word, changed(GOOD, 0, control))

    def made(self, word, at, other):
        self.renumbered(word, changed(GOOD, 3, changed(THINGS, at, other)))

    def test_form(self):
        self.renumbered(None, GOOD)
        for value in (None, 5, "image", (), self.good[:4], self.good + ((),), list(self.good)):
            self.fault("form", value)
        for control in (None, ("eval", P_FN), ("eval", P_FN, ((0, T(0)),), ()), ("give",), ("give", 1, 2), ("take", 1), ("eval", P_FN, ((0,),)),
                        ("eval", P_FN, (0,)), ("eval", P_FN, ((True, T(0)),)), ("eval", P_FN, ((-1, T(0)),)), ("eval", P_FN, None), ("eval", 5, ()),
                        ("eval", (0, -1), ()), ("eval", (True,), ()), (5, P_FN, ()), ("give", None), ("give", "x"), ("give", (1, 2)), ("give", T(True)),
                        ("give", T(6)), ("give", T(-1)), ("give", ("box", 1)), ("give", 10 ** 30)):
            self.part("form", 0, control)
        for frame in (None, (), ("if",), ("if", P_IF), ("if", P_IF, (), ()), ("args", P_WIND, ()), ("args", P_WIND, (None,), ()), ("args", P_WIND, 5, ()),
                      ("set", (1, 0)), ("set", (1, 0), 1, 2), ("inside",), ("inside", P_WIND, 1), ("ended", P_WIND), ("began", P_WIND, 1, 2),
                      ("leaving", P_CALL, 1), ("entering", P_CALL, 1, 2), ("mark", ()), ("point", 5), ("if", None, ()), ("inside", (None,))):
            self.part("form", 1, self.good[1] + (frame,))
        self.part("form", 1, None)
        for winds in (None, T(6), "x", (1,)):
            self.part("form", 2, winds)
        for other in (None, ("pair", 1), ("pair", 1, 2, 3), ("box",), ("box", 1, 2), ("fn", P_FN), ("fn", P_FN, 5), ("fn", None, ()), ("kept", ()),
                      ("kept", (None,), ()), ("kept", 5, ()), ("wind", P_WIND, 1, 2), ("wind", P_WIND, 1, 2, 3, 4), ("wind", None, 1, 2, ()), ("part", ()),
                      (), ("pair", 1, None)):
            for at in range(6):
                self.part("form", 3, changed(self.good[3], at, other))
        self.part("form", 3, None)
        self.part("form", 4, None)
        self.part("form", 4, (None,))

    def test_each_thing_has_its_own_number(self):
        self.part("form", 3, self.good[3] + (("box", 1),))
        self.part("form", 3, self.good[3][:-1])
        self.fault("form", GOOD)
        self.fault("form", (("give", T(1)), (), (), (("pair", 1, 2), ("pair", T(0), 1)), ()))
        self.fault("form", (("give", 1), (), (), (("pair", 1, 2),), ()))
        self.fault("form", (("give", 1), (), (), (("pair", 1, 2),), (T(0),)))
        self.fault(None, (("give", T(0)), (), (), (("pair", T(1), T(0)), ("pair", 1, True)), ()))

    def test_place(self):
        self.control("place", ("eval", (9,), ()))
        self.control("place", ("eval", P_FN + (0, 0), ()))
        wind = GOOD[1][0]
        rest = GOOD[1][1:]
        for frame in (("if", P_FN, ()), ("let", P_IF, ()), ("seq", (), ()), ("set", (1,), T(0)), ("args", P_FN, (), ()), ("args", (0,), (), ()),
                      ("args", P_IF, (), ()), ("began", P_KEEP, 1, 2, 3), ("inside", P_CALL), ("ended", P_KEEP, 1), ("if", (9,), ()), ("inside", (9,)),
                      ("leaving", P_CALL, T(2), 7), ("entering", P_CALL, T(2), 7, T(4))):
            self.frames("place", wind, *rest, frame)
        for frame in (("leaving", P_WIND, T(2), 7), ("leaving", (9,), T(2), 7), ("entering", P_IF, T(2), 7, T(4)), ("entering", (0,), T(2), 7, T(4))):
            self.frames("place", frame, *rest)
        for place in (P_CALL, P_KEEP):
            self.frames(None, ("leaving", place, T(2), 7), *rest)
            self.frames(None, ("entering", place, T(2), 7, T(4)), *rest)
        self.made("place", 1, ("fn", P_WIND, ((0, T(0)),)))
        self.made("place", 1, ("fn", (9,), ((0, T(0)),)))
        self.made("place", 3, ("wind", P_KEEP, T(1), T(2), T(4)))
        self.made("place", 4, ("wind", (9,), 5, (), ()))
        self.made("place", 2, ("kept", (("inside", P_FN),), T(4)))
        self.made("place", 2, ("kept", (("inside", P_WIND), ("leaving", P_CALL, T(2), 7)), T(4)))

    def test_names(self):
        for env in ((), ((1, T(0)),), ((0, T(0)), (1, T(1))), ((0, T(0)), (0, T(0)))):
            self.control("names", ("eval", P_FN, env))
        self.control(None, ("eval", P_IF, ((1, T(1)),)))
        rest = GOOD[1][:1] + GOOD[1][2:]
        for frame in (("if", P_IF, ()), ("if", P_IF, ((0, T(0)),)), ("if", P_IF, ((0, T(0)), (1, T(1)))), ("let", (), ((1, T(1)),)), ("let", P_LET1, ((0, T(0)),)),
                      ("seq", (1,), ()), ("args", P_WIND, (5,), ()), ("args", P_WIND, (5, 5), ((1, T(1)),)), ("args", P_WIND, (5, 5, 5), ()),
                      ("args", P_WIND, (5, 5, 5, 5), ()),
                      ("args", P_CALL, (5,), ()), ("args", P_CALL, (), ((1, T(1)),))):
            self.frames("names", *rest, frame)
        for frame in (("let", (), ()), ("let", P_LET1, ()), ("seq", (1,), ((0, T(0)),)), ("args", P_CALL, (), ()), ("args", P_WIND, (5, 5), ())):
            self.frames(None, *rest, frame)
        self.made("names", 1, ("fn", P_FN, ()))
        self.made("names", 1, ("fn", P_FN, ((0, T(0)), (1, 5))))
        self.made("names", 1, ("fn", P_FN, ((1, T(0)),)))
        self.made("names", 2, ("kept", (("if", P_IF, ()), ("inside", P_WIND)), T(4)))

    def test_names_ascend(self):
        program = fn(prim("pair", var(0), var(1)), 0, 1)
        self.assertIsNone(image_fault(program, (("eval", (0,), ((0, 5), (1, 6))), (), (), (), ())))
        self.assertEqual(image_fault(program, (("eval", (0,), ((1, 6), (0, 5))), (), (), (), ())), "names")

    def test_kind(self):
        for value in (5, T(1), T(3), T(5)):
            self.control("kind", ("eval", P_FN, ((0, value),)))
            self.made("kind", 1, ("fn", P_FN, ((0, value),)))
            self.frames("kind", *GOOD[1][:3], ("set", (1, 0), value), *GOOD[1][4:])
        for value in (T(0), T(3), T(4)):
            self.control("kind", ("give", value))
            self.control("kind", ("eval", P_IF, ((1, value),)))
            for frame in (("if", P_IF, ((1, value),)), ("args", P_WIND, (value,), ((1, T(1)),)), ("args", P_WIND, (T(1),), ((1, value),)),
                          ("ended", P_WIND, value), ("began", P_WIND, value, 5, 5), ("began", P_WIND, 5, value, 5), ("began", P_WIND, 5, 5, value)):
                self.frames("kind", *GOOD[1], frame)
            self.frames("kind", ("leaving", P_CALL, T(2), value), *GOOD[1][1:])
            self.made("kind", 5, ("pair", value, 1))
            self.made("kind", 5, ("pair", 1, value))
            self.made("kind", 0, ("box", value))
            self.made("kind", 3, ("wind", P_WIND, value, T(2), T(4)))
            self.made("kind", 3, ("wind", P_WIND, T(1), value, T(4)))
        for value in (5, T(0), T(1), T(5), True):
            self.renumbered("kind", changed(GOOD, 2, value))
            self.made("kind", 3, ("wind", P_WIND, T(1), T(2), value))
            self.made("kind", 2, ("kept", THINGS[2][1], value))
            self.frames("kind", ("entering", P_KEEP, T(2), 1, value), *GOOD[1][1:])
            self.frames("kind", ("leaving", P_KEEP, value, 1), *GOOD[1][1:])
        self.frames("kind", ("leaving", P_KEEP, T(3), 1), *GOOD[1][1:])
        self.frames("kind", ("entering", P_KEEP, T(2), 1, T(2)), *GOOD[1][1:])
        self.frames("kind", ("entering", P_KEEP, T(2), 1, ()), *GOOD[1][1:])
        self.part("kind", 4, (T(0),))
        self.part("kind", 4, (1, T(5)))
        self.part(None, 4, (1, (), ("name", "a"), False))
        self.control(None, ("give", T(2)))
        self.control(None, ("give", T(5)))

    def test_winds(self):
        self.renumbered("winds", changed(GOOD, 2, ()))
        self.made("winds", 4, ("wind", P_WIND, 5, (), T(4)))
        self.made("winds", 4, ("wind", P_WIND, 5, (), T(3)))
        two = GOOD[1] + (("inside", P_WIND),)
        self.frames(None, *two)
        self.frames("winds", *two, ("inside", P_WIND))
        self.made("winds", 2, ("kept", (("inside", P_WIND),), ()))
        self.made(None, 2, ("kept", (("inside", P_WIND), ("inside", P_WIND)), T(3)))
        self.made("winds", 2, ("kept", (("inside", P_WIND), ("inside", P_WIND)), T(4)))

    def test_places_of_winds(self):
        program = prim("wind", fn(const(1)), fn(prim("wind", fn(const(2)), fn(const(3)), fn(const(4)))), fn(const(5)))
        inner = (1, 0)
        things = (("wind", inner, 1, 2, T(1)), ("wind", (), 1, 2, ()))
        frames = (("inside", ()), ("inside", inner))
        self.assertIsNone(image_fault(program, (("give", 1), frames, T(0), things, ())))
        self.assertEqual(image_fault(program, (("give", 1), frames[::-1], T(0), things, ())), "winds")
        self.assertIsNone(image_fault(program, (("give", 1), frames[1:], T(0), things, ())))
        self.assertEqual(image_fault(program, (("give", 1), frames[:1], T(0), things, ())), "winds")

    def test_parts_in_their_order(self):
        """Each part is looked at only if those ahead of it hold."""
        image = changed(GOOD, 2, ())
        self.renumbered("winds", image)
        image = changed(image, 0, ("give", T(0)))
        self.renumbered("kind", image)
        image = changed(image, 1, image[1] + (("if", P_IF, ()),))
        self.renumbered("names", image)
        image = changed(image, 1, image[1] + (("if", P_FN, ()),))
        self.renumbered("place", image)
        self.fault("form", changed(image, 1, image[1] + (None,)))


class Unlike(unittest.TestCase):
    def test_first_unlike(self):
        image = (("give", (("name", "a"))), (("if", (), ((0, 5),)),), (), (("pair", 1, True),), (1,))
        self.assertIsNone(first_unlike(image, image))
        for other, way in (((("give", 7), *image[1:]), (0, 1)), (changed(image, 2, T(0)), (2,)), (changed(image, 4, (True,)), (4, 0)),
                           (changed(image, 4, ()), (4,)), (changed(image, 3, (("pair", 1, 1),)), (3, 0, 2)), (changed(image, 3, (("pair", True, 1),)), (3, 0, 1)),
                           (changed(changed(image, 3, (("pair", 2, True),)), 4, (2,)), (4, 0)), (changed(changed(image, 1, ()), 4, ()), (1,)),
                           (changed(image, 1, (("if", (), ((0, 6),)),)), (1, 0, 2, 0, 1)), (5, ())):
            self.assertEqual(first_unlike(image, other), way)
            self.assertEqual(first_unlike(other, image), way)

    def test_deep_parts(self):
        one = two = 5
        for _ in range(300):
            one, two = (one,), (two,)
        self.assertIsNone(first_unlike(one, two))
        three = 6
        for _ in range(300):
            three = (three,)
        self.assertEqual(first_unlike(one, three), (0,) * 300)

    def test_drawn(self):
        source = random.Random(3)

        def tree(depth):
            if depth == 0 or source.random() < 0.3:
                return source.choice((0, 1, True, False, ()))
            return tuple(tree(depth - 1) for _ in range(source.randrange(1, 4)))

        def ways(one, other, way):
            if type(one) is tuple and type(other) is tuple and len(one) == len(other):
                return [found for k in range(len(one)) for found in ways(one[k], other[k], way + (k,))]
            return [] if repr(one) == repr(other) else [way]

        for _ in range(500):
            one, other = tree(3), tree(3)
            found = ways(one, other, ())
            self.assertEqual(first_unlike(one, other), min(found, key=lambda way: (len(way), way)) if found else None)


if __name__ == "__main__":
    unittest.main()
