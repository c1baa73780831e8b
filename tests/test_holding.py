"""[123], [124]: what holds what in a standing."""

import os
import random
import sys
import time
import unittest

sys.path.insert(0, os.path.dirname(os.path.abspath(__file__)))

import plain_free
import plain_meaning
from samples import WIDE, const, prim, programs

from keptrest.errors import NotReached, OutOfRange
from keptrest.holding import held, held_by, holder, kinds_bill
from keptrest.images import image_bill, image_of
from keptrest.meaning import standing_after
from keptrest.names import renumbered
from keptrest.standings import reached, thing_words, weight


def t(k):
    return ("thing", k)


def standing(value, *store, winds=(), kont=()):
    return (("give", value), kont, winds, store, (), ())


class Case(unittest.TestCase):
    def same(self, one, other):
        self.assertEqual(repr(one), repr(other))


class Examples(Case):
    def test_example(self):
        term = prim("pair", prim("pair", const(1), const(2)), const(3))
        there = standing_after(term, (), WIDE, 8)
        self.same(there[0], ("give", 3))
        self.same(there[1][0][:2], ("args", ()))
        self.same(held(there, ("frame", 0)), (0,))
        self.same(held(there, ("control",)), ())
        self.same(held(there, ("winds",)), ())
        self.same(kinds_bill(there), (1, 0, 0, 0, 0, 2))
        self.same(holder(there, 0), None)
        self.same(held_by(there, 0), (0,))

    def test_each_sort_of_root(self):
        frames = (("args", (), (t(1), t(4)), ((5, t(2)),)), ("set", (0,), t(2)), ("entering", (), t(6), 1, t(3)))
        store = (("pair", 1, 2), ("pair", t(5), 2), ("box", 1), ("wind", (), 1, 2, ()), ("pair", 1, 1), ("pair", 1, t(0)),
                 ("kept", (("ended", (), t(8)),), t(7)), ("wind", (), 1, 2, ()), ("box", 5), ("pair", 9, 9))
        there = standing(t(0), *store, winds=t(7), kont=frames)
        self.same(held(there, ("control",)), ())
        self.same(held(there, ("frame", 0)), (1, 4, 5))
        self.same(held(there, ("frame", 1)), ())
        self.same(held(there, ("frame", 2)), (3, 6, 8))
        self.same(held(there, ("winds",)), ())
        self.same(held(standing(1, *store, winds=t(7)), ("winds",)), (7,))
        self.same(held(standing(t(9), *store), ("control",)), (9,))
        self.same(reached(there), (0, 1, 2, 3, 4, 5, 6, 7, 8))
        for i in (3, 4, -1, 100):
            with self.assertRaises(OutOfRange) as caught:
                held(there, ("frame", i))
            self.assertEqual(caught.exception.value, i)

    def test_shared_things_and_rings(self):
        store = (("pair", t(1), t(2)), ("pair", t(3), 0), ("pair", t(3), 0), ("pair", t(3), t(4)), ("pair", t(3), 1), ("pair", 1, 1))
        there = standing(t(0), *store)
        for k, told in enumerate(((0, 1, 2, 3, 4), (1,), (2,), (3, 4), (4,))):
            self.same(held_by(there, k), told)
        self.same([holder(there, k) for k in range(5)], [None, 0, 0, 0, 3])
        for k in (5, 6, 99, -1):
            for ask in (held_by, holder):
                with self.assertRaises(NotReached) as caught:
                    ask(there, k)
                self.assertEqual(caught.exception.address, k)

    def test_two_roots(self):
        store = (("pair", t(1), ()), ("pair", t(2), ()), ("pair", 1, 1))
        there = standing(t(0), *store, kont=(("ended", (), t(1)),))
        self.same([holder(there, k) for k in range(3)], [None, None, 1])
        self.same(held(there, ("control",)), (0,))
        self.same(held(there, ("frame", 0)), ())
        self.same(held_by(there, 1), (1, 2))

    def test_kept_things_boxes_and_winds(self):
        frames = (("let", (), ((0, t(1)),)), ("began", (), t(2), t(3), 4))
        store = (("kept", frames, t(4)), ("box", t(5)), ("fn", (0,), ((1, t(6)),)), ("pair", 1, 2), ("wind", (), t(3), 1, t(7)),
                 ("pair", 1, 2), ("box", t(5)), ("wind", (), 1, 1, ()))
        there = standing(t(0), *store)
        self.same(held_by(there, 0), tuple(range(8)))
        self.same(held_by(there, 4), (4, 7))
        self.same(held_by(there, 2), (2, 6))
        self.same([holder(there, k) for k in range(8)], [None, 0, 0, 0, 0, 0, 2, 4])
        self.same(kinds_bill(there), (2, 2, 1, 1, 2, sum(thing_words(thing) for thing in store)))

    def test_a_row_of_many(self):
        """Long rows take little time, and what is in the middle is held by all ahead of it."""
        many = 20000
        there = standing(t(0), *[("pair", k, t(k + 1)) for k in range(many)], ("pair", 1, ()))
        begin = time.process_time()
        self.assertEqual(holder(there, many), many - 1)
        self.assertEqual(held_by(there, many // 2), tuple(range(many // 2, many + 1)))
        ladder = standing(t(0), *[("pair", t(k + 1), t(k + 2)) for k in range(many)], ("pair", 1, 1), ("pair", 1, 1))
        self.assertEqual(holder(ladder, many), 0)
        self.assertEqual(holder(ladder, 1), 0)
        self.assertLess(time.process_time() - begin, 5)


class Compared(Case):
    def check(self, there):
        before = repr(there)
        found = reached(there)
        total = weight(there)
        all_held = []
        for root, values in plain_free.root_values(there).items():
            told = held(there, root)
            self.same(told, plain_free.held(there, root))
            all_held += told
            others = [value for other, more in plain_free.root_values(there).items() if other != root for value in more]
            rest = sum(thing_words(there[3][a]) for a in plain_meaning.reach(there[3], others))
            self.assertEqual(rest, total - sum(thing_words(there[3][a]) for a in told))
        self.assertEqual(len(all_held), len(set(all_held)))
        for address in found:
            self.same(held_by(there, address), plain_free.held_by(there, address))
            self.same(holder(there, address), plain_free.holder(there, address))
        self.same(kinds_bill(there), image_bill(image_of(there)))
        self.assertEqual(repr(there), before)
        return len(found)

    def test_runs(self):
        source, made = random.Random(5), plain_meaning.Programs(5)
        cases = [(term, inputs) for _, term, inputs in programs()]
        cases += [(renumbered(made.program(source.randrange(1, 5))), (3,)) for _ in range(40)]
        most = 0
        for term, inputs in cases:
            for steps in (3, 17, 40, 71, 120):
                there = standing_after(term, inputs, WIDE, steps)
                if there is not None:
                    most = max(most, self.check(there))
        self.assertGreater(most, 8)

    def test_random_webs(self):
        source = random.Random(6)
        for _ in range(150):
            many = source.randrange(1, 10)

            def value():
                return t(source.randrange(many)) if source.random() < 0.6 else source.randrange(3)

            store = tuple(source.choice((("pair", value(), value()), ("box", value()), ("fn", (), ((0, value()), (3, value()), (4, value()))),
                                         ("kept", (("ended", (), value()), ("set", (), value())), ()))) for _ in range(many))
            kont = tuple(source.choice((("ended", (), value()), ("args", (), (value(),), ((1, value()),)), ("inside", ()))) for _ in range(source.randrange(3)))
            self.check(standing(value(), *store, kont=kont))


if __name__ == "__main__":
    unittest.main()
