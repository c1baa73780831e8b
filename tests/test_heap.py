"""[64], [72] to [74]: heaps, what is reached in them, and collecting."""

import os
import random
import sys
import unittest

sys.path.insert(0, os.path.dirname(os.path.abspath(__file__)))

import plain_machine

from keptrest.collect import collect, heap_map, make_cell, plain_heap
from keptrest.heap import cell_size, cells_of, new_cell, reached_cells, reached_words, used_words


def header(kind, data, count):
    return ("cell", kind, data, count)


def at(number):
    return ("at", number)


PAIR = header("pair", None, 2)
EXAMPLE = (PAIR, 7, at(3), PAIR, at(0), (), header("box", None, 1), 5)
BACK = ("point", 9)
INSIDE = ("point", "inside", (0, 1))
KINDS = (PAIR, 1, True, header("box", None, 1), (), header("fn", (0, 1), 2), 5, at(0), header("fn", (), 0),
         header("wind", (1,), 3), at(5), 7, (), header("kept", None, 5), at(9), 5, at(0), BACK, INSIDE)


class Heaps(unittest.TestCase):
    def test_cells(self):
        self.assertEqual(cells_of(()), ())
        self.assertEqual(cells_of(EXAMPLE), ((0, "pair", None, (7, at(3))), (3, "pair", None, (at(0), ())), (6, "box", None, (5,))))
        self.assertEqual(repr(cells_of(KINDS)), repr((
            (0, "pair", None, (1, True)), (3, "box", None, ((),)), (5, "fn", (0, 1), (5, at(0))), (8, "fn", (), ()),
            (9, "wind", (1,), (at(5), 7, ())), (13, "kept", None, (at(9), 5, at(0), BACK, INSIDE)))))

    def test_sizes(self):
        for kind, count, size in (("pair", 2, 2), ("box", 1, 1), ("fn", 0, 1), ("fn", 7, 8), ("wind", 3, 3), ("kept", 1, 2), ("kept", 5, 6)):
            self.assertEqual(cell_size(kind, count), size)
        self.assertEqual(used_words(()), 0)
        self.assertEqual(used_words(EXAMPLE), 5)
        self.assertEqual(used_words(KINDS), 2 + 1 + 3 + 1 + 3 + 6)

    def test_reached(self):
        self.assertEqual(reached_cells((), EXAMPLE), ())
        self.assertEqual(reached_cells((5, (), BACK, INSIDE, ("name", "at")), EXAMPLE), ())
        self.assertEqual(reached_cells((at(3),), EXAMPLE), (3, 0))
        self.assertEqual(reached_cells((at(0),), EXAMPLE), (0, 3))
        self.assertEqual(reached_cells((at(6), at(6), at(0)), EXAMPLE), (6, 0, 3))
        self.assertEqual(reached_words((at(3),), EXAMPLE), 4)
        self.assertEqual(reached_words((1, at(6)), EXAMPLE), 1)

    def test_met_order_goes_by_cells(self):
        heap = (PAIR, at(3), at(6), PAIR, at(9), 1, PAIR, at(9), at(12), PAIR, 1, 2, PAIR, at(12), 3)
        self.assertEqual(reached_cells((at(0),), heap), (0, 3, 6, 9, 12))
        self.assertEqual(reached_cells((at(6), at(3)), heap), (6, 3, 9, 12))

    def test_kinds_are_gone_through(self):
        self.assertEqual(reached_cells((at(13),), KINDS), (13, 9, 0, 5))
        self.assertEqual(reached_cells((at(13), at(3)), KINDS), (13, 3, 9, 0, 5))
        self.assertEqual(reached_words((at(13), at(3)), KINDS), 6 + 3 + 2 + 3 + 1)

    def test_new_cells(self):
        self.assertEqual(new_cell((), "box", None, (5,)), ((header("box", None, 1), 5), at(0)))
        heap, address = new_cell(EXAMPLE, "fn", (1,), ())
        self.assertEqual((heap[:8], heap[8:], address), (EXAMPLE, (header("fn", (1,), 0),), at(8)))


class Collecting(unittest.TestCase):
    def test_example(self):
        """[74]."""
        told = ((at(0),), (PAIR, at(3), (), PAIR, 7, at(0)), ((0, 3), (3, 0)))
        self.assertEqual(collect((at(3),), EXAMPLE), told)
        self.assertEqual(plain_heap((at(3),), EXAMPLE), told[:2])
        self.assertEqual(collect(told[0], told[1])[:2], told[:2])

    def test_roots(self):
        self.assertEqual(collect((), EXAMPLE), ((), (), ()))
        roots = (5, BACK, at(6), INSIDE, at(6), True)
        self.assertEqual(repr(collect(roots, EXAMPLE)), repr(((5, BACK, at(0), INSIDE, at(0), True), (header("box", None, 1), 5), ((6, 0),))))

    def test_cells_that_lead_to_themselves(self):
        heap = (PAIR, 0, 0, PAIR, at(3), at(3))
        self.assertEqual(collect((at(3),), heap), ((at(0),), (PAIR, at(0), at(0)), ((3, 0),)))

    def drawn(self, source):
        """A heap with addresses forwards and backwards, and roots."""
        shapes = [source.choice((("pair", None, 2), ("box", None, 1), ("fn", (0,), source.randrange(4)), ("wind", (1,), 3),
                                 ("kept", None, 1 + source.randrange(5)))) for _ in range(source.randrange(12))]
        numbers, n = [], 0
        for shape in shapes:
            numbers.append(n)
            n += 1 + shape[2]

        def word():
            return at(source.choice(numbers)) if numbers and source.random() < 0.5 else source.choice((1, True, (), ("name", "a"), 0, False))

        heap = []
        for shape in shapes:
            heap += [header(*shape)] + [word() for _ in range(shape[2])]
        return tuple(heap), tuple(word() if source.random() < 0.8 else BACK for _ in range(source.randrange(4)))

    def test_drawn_heaps(self):
        source = random.Random(4)
        for _ in range(600):
            heap, roots = self.drawn(source)
            order = plain_machine.met(roots, heap)
            self.assertEqual(list(reached_cells(roots, heap)), order)
            self.assertEqual(reached_words(roots, heap), plain_machine.words_reached(roots, heap))
            led, kept, moved = collect(roots, heap)
            self.assertEqual([cell[1:3] for cell in cells_of(kept)], [heap[n][1:3] for n in order])
            self.assertEqual([old for old, _ in sorted(moved, key=lambda pair: pair[1])], order)
            self.assertEqual(list(moved), sorted(moved))
            self.assertEqual(used_words(kept), reached_words(roots, heap))
            self.assertEqual(repr(plain_heap(led, kept)), repr((led, kept)))
            self.assertEqual(heap_map(roots, heap, led, kept), moved)
            self.assertEqual(heap_map(led, kept, roots, heap), tuple(sorted((new, old) for old, new in moved)))

    def test_maps_tell_when_what_is_collected_is_the_same(self):
        source = random.Random(5)
        found = {True: 0, False: 0}
        pairs = [self.drawn(source) for _ in range(300)]
        pairs = [(heap, roots) for heap, roots in pairs if len(heap) < 8]
        for heap, roots in pairs:
            for other, others in pairs:
                same = repr(plain_heap(roots, heap)) == repr(plain_heap(others, other))
                found[same] += 1
                self.assertIs(heap_map(roots, heap, others, other) is not None, same)
        self.assertGreater(found[True], 100)

    def test_no_map(self):
        self.assertEqual(heap_map((), EXAMPLE, (), ()), ())
        self.assertIsNone(heap_map((1,), (), (True,), ()))
        self.assertIsNone(heap_map((1,), (), (1, 1), ()))
        self.assertIsNone(heap_map((at(0),), (PAIR, 1, 2), (at(0),), (PAIR, 1, 3)))
        self.assertIsNone(heap_map((at(0),), (PAIR, 1, 2), (at(0),), (PAIR, True, 2)))
        self.assertIsNone(heap_map((at(0),), (header("fn", (1,), 0),), (at(0),), (header("fn", (0,), 0),)))
        self.assertIsNone(heap_map((at(0),), (header("fn", (1,), 0),), (at(0),), (header("fn", (True,), 0),)))
        self.assertIsNone(heap_map((at(0),), (header("box", None, 1), 1), (1,), ()))
        one = (PAIR, 1, 1, PAIR, 1, 1)
        self.assertIsNone(heap_map((at(0), at(3)), one, (at(0), at(0)), one))
        self.assertIsNone(heap_map((at(0), at(0)), one, (at(0), at(3)), one))
        self.assertEqual(heap_map((at(0), at(3)), one, (at(3), at(0)), one), ((0, 3), (3, 0)))
        self.assertIsNone(heap_map((BACK,), (), (("point", 8),), ()))


class Makings(unittest.TestCase):
    HEAP = (PAIR, 1, 2, PAIR, 3, at(0), header("box", None, 1), 9)

    def test_with_room(self):
        made = make_cell(7, False, (at(3), BACK), self.HEAP, "pair", None, (at(6), 5))
        self.assertEqual(made, ("made", (at(6), 5), (at(3), BACK), self.HEAP + (PAIR, at(6), 5), at(8)))

    def test_without_room_it_collects(self):
        made = make_cell(6, False, (at(3), BACK), self.HEAP, "pair", None, (7, 5))
        self.assertEqual(made, ("made", (7, 5), (at(0), BACK), (PAIR, 3, at(3), PAIR, 1, 2, PAIR, 7, 5), at(6)))
        made = make_cell(6, False, (), self.HEAP, "pair", None, (at(6), at(0)))
        self.assertEqual(made, ("made", (at(0), at(2)), (), (header("box", None, 1), 9, PAIR, 1, 2, PAIR, at(0), at(2)), at(5)))

    def test_traps(self):
        self.assertEqual(make_cell(5, False, (at(3), BACK), self.HEAP, "pair", None, (7, 5)), ("trap", 4))
        self.assertEqual(make_cell(6, False, (at(3), at(6)), self.HEAP, "pair", None, (7, 5)), ("trap", 5))
        self.assertEqual(make_cell(6, True, (at(3), at(6)), self.HEAP, "pair", None, (7, 5)), ("trap", 5))
        self.assertEqual(make_cell(0, False, (), (), "fn", (), ()), ("trap", 0))
        self.assertEqual(make_cell(1, False, (), (), "fn", (), ()), ("made", (), (), (header("fn", (), 0),), at(0)))
        self.assertEqual(make_cell(1, False, (), (), "kept", None, ((),)), ("trap", 0))

    def test_collecting_with_room(self):
        made = make_cell(20000, True, (at(3),), self.HEAP, "box", None, (1,))
        self.assertEqual(made, ("made", (1,), (at(0),), (PAIR, 3, at(3), PAIR, 1, 2, header("box", None, 1), 1), at(6)))
        made = make_cell(20000, True, (), self.HEAP, "kept", None, ((), at(0), at(6), BACK))
        self.assertEqual(made, ("made", ((), at(0), at(3), BACK), (), (PAIR, 1, 2, header("box", None, 1), 9, header("kept", None, 4),
                                                                      (), at(0), at(3), BACK), at(5)))

    def test_items_are_met_ahead_of_roots(self):
        made = make_cell(20000, True, (at(0),), self.HEAP, "box", None, (at(6),))
        self.assertEqual(made, ("made", (at(0),), (at(2),), (header("box", None, 1), 9, PAIR, 1, 2, header("box", None, 1), at(0)), at(5)))


if __name__ == "__main__":
    unittest.main()
