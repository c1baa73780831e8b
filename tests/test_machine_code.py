"""[63], [69]: machine codes, needs of points, and sound codes."""

import os
import random
import sys
import unittest

sys.path.insert(0, os.path.dirname(os.path.abspath(__file__)))

from samples import changed, programs, with_entry, with_row

from keptrest.codegen import compiled
from keptrest.machine import begin, is_machine_code, machine_step, needs, sound_fault

EXAMPLE = ((("load", 1, 1), ("to", 0, 2), ("load", 2, 3), ("to", 1, 4), ("make", ("pair",), (), (0, 1), (), 5), ("back",)), (None,) * 6, (), 0)
P, Q = (0,), (0, 1)
ENTRY = (P, 1, False, (False, False), (("own", 0), ("handed", 0)), 2)
OTHER = (Q, 0, True, (True,), (("handed", 0),), 3)
ROWS = (
    ("load", 1, 1), ("from", 0, 2), ("to", 59, 3), ("open", 0, 4), ("fill", 0, 5), ("prim", "ask", (7,) * 200, (), 6),
    ("prim", "put first", (), (3, 3), 7), ("make", ("fn",), P, (0,), (0, 1), 8), ("make", ("box",), (), (4,), (), 9),
    ("make", ("pair",), (5,), (4, 4), (59,), 10), ("test", 11, 12), ("push", 13, (1, 1), 12), ("go", 14, (1,)), ("back",),
    ("call", (), (0, 1)), ("known", (), P, (0, 1)), ("known", (1, 2), Q, (0,)), ("keep", (), 0), ("wind", (), (0, 1, 2)), ("stop", "given up", ()),
)
CODE = (ROWS, tuple(range(20)), (ENTRY, OTHER), 0)
BAD = {
    "point": (20, -1, None, True, "0", (0,)),
    "constant": (10 ** 30, None, "x", ("name", "X"), ("thing", 0)),
    "slot": (60, -1, True, None, "1"),
    "slots": ((60,), (0, -1), (True, 1), None, 1, (None,)),
    "live": ((60,), (1, 0), (3, 3), 0, None, (False,)),
    "place": ((-1,), (True,), None, 0, "p", ((),), (0,) * 201),
    "prim": ("pair", "keep", "wind", "give up", "nothing", 5, None),
    "what": ("fn", ("pairs",), (), None),
    "stop": ("memory", "deep", "input", "x", None),
}
FIELDS = {
    "load": ("constant", "point"), "from": ("slot", "point"), "to": ("slot", "point"), "open": ("slot", "point"),
    "fill": ("slot", "point"), "prim": ("prim", "place", "slots", "point"),
    "make": ("what", "place", "slots", "live", "point"), "test": ("point", "point"), "push": ("point", "slots", "point"),
    "go": ("point", "slots"), "back": (), "call": ("place", "slots"), "known": ("place", "place", "slots"),
    "keep": ("place", "slot"), "wind": ("place", "slots"), "stop": ("stop", "place"),
}


class MachineCodes(unittest.TestCase):
    def good(self, code):
        self.assertIs(is_machine_code(code), True)

    def bad(self, code, why=None):
        self.assertIs(is_machine_code(code), False, why)

    def test_good_ones(self):
        self.good(CODE)
        self.good(EXAMPLE)
        for name, program, _ in programs():
            self.good(compiled(program))

    def test_what_is_none(self):
        for value in (None, 5, "code", (), (1, 2, 3, 4), EXAMPLE[:3], EXAMPLE + (0,), (list(EXAMPLE[0]), *EXAMPLE[1:]), ((), (), (), 0),
                      (EXAMPLE[0], EXAMPLE[1][1:], (), 0), (EXAMPLE[0], EXAMPLE[1] + (1,), (), 0), (EXAMPLE[0], None, (), 0),
                      (*EXAMPLE[:2], None, 0), (*EXAMPLE[:3], 6), (*EXAMPLE[:3], -1), (*EXAMPLE[:3], False), (*EXAMPLE[:3], None)):
            self.bad(value, value)

    def test_maps_may_be_anything(self):
        self.good((CODE[0], ("x", None, (), True, 5) + CODE[1][5:], *CODE[2:]))

    def test_rows(self):
        for point, row in enumerate(ROWS):
            for at, field in enumerate(FIELDS[row[0]]):
                for value in BAD[field]:
                    self.bad(with_row(CODE, point, changed(row, at + 1, value)), (row, field, value))
            for other in (row[:-1], row + (0,), None, (), (row[0] + "s",) + row[1:]):
                self.bad(with_row(CODE, point, other))
        self.good(with_row(CODE, 19, ("stop", "range", (9,) * 200)))

    def test_numbers_of_slots(self):
        for point, rows in (
                (6, (("prim", "put first", (), (3,), 7), ("prim", "put first", (), (3, 3, 3), 7), ("prim", "ask", (), (1,), 7))),
                (8, (("make", ("box",), (), (), (), 9), ("make", ("box",), (), (1, 2), (), 9))),
                (9, (("make", ("pair",), (), (1,), (), 9), ("make", ("pair",), (), (1, 2, 3), (), 9))),
                (14, (("call", (), ()),)), (15, (("known", (), P, ()), ("known", (), P, (0,)), ("known", (), P, (0, 1, 2)))),
                (16, (("known", (), Q, ()),)), (18, (("wind", (), (0, 1)), ("wind", (), (0, 1, 2, 3))))):
            for row in rows:
                self.bad(with_row(CODE, point, row), row)
        self.good(with_row(CODE, 16, ("known", (), Q, (0, 1, 2, 3))))
        self.good(with_row(CODE, 14, ("call", (), (5,) * 30)))

    def test_rows_and_entries(self):
        self.bad(with_row(CODE, 7, ("make", ("fn",), (9,), (0,), (), 8)))
        self.bad(with_row(CODE, 7, ("make", ("fn",), P, (), (), 8)))
        self.good(with_row(CODE, 7, ("make", ("fn",), P, (0, 1, 2), (), 8)))
        self.good(with_row(CODE, 7, ("make", ("fn",), Q, (), (), 8)))
        self.bad(with_row(CODE, 15, ("known", (), (9,), (0, 1))))
        self.bad((*CODE[:2], (OTHER,), 0))

    def test_entries(self):
        for at, values in ((0, (None, (-1,), (0, True), "q")), (1, (-1, 14, True, None, 2)), (2, (0, None)), (3, ((False,), (False, 0), (False, True), None)),
                           (4, (None, (("own", -1),), (("own", True),), (("handed", 1),), (("held", 0),), (("own",),), ("own",), (("own", 0),) * 61)),
                           (5, (20, -1, None, True))):
            for value in values:
                self.bad(with_entry(CODE, 0, changed(ENTRY, at, value)), (at, value))
        self.good(with_entry(CODE, 0, changed(ENTRY, 4, (("own", 0),) * 60)))
        self.good(with_entry(CODE, 0, changed(ENTRY, 4, ())))
        self.good(with_entry(CODE, 1, changed(OTHER, 4, (("own", 99), ("handed", 0)))))
        self.good((*CODE[:2], CODE[2] + (((1,), 13, True, (True,) * 14, (("handed", 13),), 0),), 0))
        self.bad((*CODE[:2], CODE[2] + (((1,), 13, False, (False,) * 14, (("handed", 13),), 0),), 0))
        self.bad(with_entry(CODE, 0, ENTRY[:5]))
        self.bad(with_entry(CODE, 0, ENTRY + (0,)))
        self.bad(with_entry(CODE, 0, None))

    def test_entries_ascend(self):
        self.bad((*CODE[:2], (OTHER, ENTRY), 0))
        self.bad((*CODE[:2], (ENTRY, ENTRY, OTHER), 0))


class Needs(unittest.TestCase):
    def test_example(self):
        self.assertEqual(needs(EXAMPLE), ((), ("value",), (0,), (0, "value"), (0, 1), ("value",)))
        self.assertIsNone(sound_fault(EXAMPLE))

    def test_each_row(self):
        last = (("make", ("pair",), (), (7, 8), (9,), 2), ("back",))
        for row, told in ((("load", 1, 1), (7, 8, 9)), (("from", 3, 1), (3, 7, 8, 9)), (("to", 3, 1), (7, 8, 9, "value")), (("to", 8, 1), (7, 9, "value")),
                          (("open", 3, 1), (3, 7, 8, 9)), (("fill", 3, 1), (3, 7, 8, 9, "value")), (("prim", "add", (), (1, 2), 1), (1, 2, 7, 8, 9)),
                          (("make", ("pair",), (), (1, 2), (3, 5), 1), (1, 2, 3, 5)), (("test", 1, 1), (7, 8, 9, "value")),
                          (("test", 1, 2), (7, 8, 9, "value")), (("push", 1, (4, 5), 1), (4, 5, 7, 8, 9)), (("push", 2, (4, 5), 2), (4, 5, "value")),
                          (("go", 1, (4,)), (4,)), (("go", 2, (4,)), (4, "value")), (("back",), ("value",)), (("call", (), (6, 2)), (2, 6)),
                          (("known", (), (), (6, 2)), (2, 6)), (("keep", (), 11), (11,)), (("wind", (), (3, 2, 3)), (2, 3)), (("stop", "kind", ()), ())):
            code = ((row,) + last, (None,) * 3, (((), 1, False, (False, False), (), 0),), 0)
            self.assertEqual(needs(code)[0], told, row)

    def test_what_gives_value_needs_none(self):
        for row, told in ((("load", 1, 1), ()), (("from", 3, 1), (3,)), (("open", 3, 1), (3,)), (("fill", 3, 1), (3, "value")),
                          (("prim", "more", (), (), 1), ()), (("make", ("box",), (), (0,), (), 1), (0,)), (("push", 1, (), 1), ("value",))):
            self.assertEqual(needs(((row, ("back",)), (None,) * 2, (), 0))[0], told, row)

    def test_rings(self):
        rows = (("prim", "more", (), (), 1), ("test", 2, 4), ("from", 3, 3), ("prim", "show", (), (3,), 0), ("from", 5, 5), ("back",))
        self.assertEqual(needs((rows, (None,) * 6, (), 0)), ((3, 5), (3, 5, "value"), (3, 5), (3, 5), (5,), ("value",)))
        self.assertEqual(needs(((("go", 0, (2,)),), (None,), (), 0)), ((2,),))

    def test_needs_are_the_least_ones(self):
        """Compared with what comes of looking at all rows again and again."""
        source = random.Random(6)
        codes = [compiled(program) for _, program, _ in programs()]
        for code in codes:
            for _ in range(3):
                rows = list(code[0])
                for _ in range(source.randrange(4)):
                    rows[source.randrange(len(rows))] = source.choice(rows)
                self.assertEqual(needs((tuple(rows), *code[1:])), plain_needs(rows))


def plain_needs(rows):
    found = [set() for _ in rows]
    again = True
    while again:
        again = False
        for k, row in enumerate(rows):
            word = row[0]
            need = set()
            if word in ("from", "open"):
                need = {row[1]} | found[row[2]] - {"value"}
            elif word == "to":
                need = {"value"} | found[row[2]] - {row[1]}
            elif word == "load":
                need = found[row[2]] - {"value"}
            elif word == "fill":
                need = {row[1], "value"} | found[row[2]] - {"value"}
            elif word == "prim":
                need = set(row[3]) | found[row[4]] - {"value"}
            elif word == "make":
                need = set(row[3]) | set(row[4])
            elif word == "test":
                need = {"value"} | found[row[1]] | found[row[2]]
            elif word == "push":
                need = set(row[2]) | found[row[3]]
            elif word == "go":
                need = set(row[2]) | found[row[1]] & {"value"}
            elif word == "back":
                need = {"value"}
            elif word in ("call", "known", "wind"):
                need = set(row[-1])
            elif word == "keep":
                need = {row[2]}
            if need - found[k]:
                found[k] |= need
                again = True
    return tuple(tuple(sorted(need - {"value"})) + (("value",) if "value" in need else ()) for need in found)


class Sound(unittest.TestCase):
    def fault(self, told, rows, entries=(), start=0):
        code = (tuple(rows), (None,) * len(rows), entries, start)
        self.assertTrue(is_machine_code(code))
        self.assertEqual(sound_fault(code), told)

    def test_start(self):
        self.fault((0, "start"), [("from", 0, 1), ("back",)])
        self.fault((1, "start"), [("load", 1, 1), ("back",)], start=1)
        self.fault(None, [("load", 1, 1), ("back",)])
        self.fault(None, [("back",), ("load", 1, 0)], start=1)

    def test_entry(self):
        rows = [("load", 1, 1), ("back",), ("from", 1, 1), ("to", 0, 2), ("load", 5, 2)]
        self.fault(None, rows, (((), 0, False, (False,), (("own", 3), ("own", 4)), 2),))
        self.fault((2, "entry"), rows, (((), 0, False, (False,), (("own", 3),), 2),))
        self.fault((1, "entry"), rows, (((), 0, False, (False,), (("own", 3),), 1),))
        self.fault((3, "entry"), rows, (((), 0, False, (False,), (("own", 3), ("own", 1)), 3),))
        self.fault((4, "entry"), rows, (((), 0, False, (False,), (("own", 3),), 4),))

    def test_frame(self):
        rows = [("load", 1, 1), ("to", 0, 2), ("push", 3, (0,), 4), ("from", 1, 5), ("load", 1, 5), ("back",)]
        self.fault((2, "frame"), rows)
        rows[2] = ("push", 3, (0, 0), 4)
        self.fault(None, rows)
        rows[2] = ("push", 5, (), 4)
        self.fault(None, rows)

    def test_go(self):
        rows = [("load", 1, 1), ("to", 0, 2), ("go", 3, (0,)), ("from", 1, 4), ("back",)]
        self.fault((2, "go"), rows)
        rows[2] = ("go", 3, (0, 0))
        self.fault(None, rows)

    def test_live(self):
        rows = [("load", 1, 1), ("to", 0, 2), ("make", ("box",), (), (0,), (), 3), ("from", 0, 4), ("back",)]
        self.fault((2, "live"), rows)
        rows[2] = ("make", ("box",), (), (0,), (0,), 3)
        self.fault(None, rows)
        rows[2] = ("make", ("box",), (), (0,), (), 4)
        self.fault(None, rows)

    def test_the_least_point_and_the_first_word(self):
        entry = (((), 0, False, (False,), (), 0),)
        self.fault((0, "start"), [("push", 2, (), 1), ("from", 9, 2), ("from", 3, 3), ("back",)], entry)
        rows = [("load", 1, 5), ("push", 3, (), 2), ("from", 9, 4), ("from", 3, 4), ("back",), ("back",)]
        self.fault((1, "entry"), rows, (((), 0, False, (False,), (), 1),))
        self.fault((1, "frame"), rows)
        rows[0] = ("make", ("box",), (), (0,), (), 1)
        self.fault((0, "start"), rows)
        self.fault((0, "live"), [("make", ("fn",), (), (), (), 1), ("from", 2, 2), ("back",)], entry)


class Run(unittest.TestCase):
    def steps(self, limits):
        state = begin(EXAMPLE, ())
        many = 0
        while True:
            many += 1
            told = machine_step(EXAMPLE, limits, state)
            if told[0] == "ended":
                return many, told[1:]
            state = told[1]

    def test_example(self):
        """[69]."""
        self.assertEqual(self.steps((2, 0, ())), (6, (("end", "(1 . 2)"), ())))
        self.assertEqual(self.steps((1, 0, ())), (5, (("trap", "memory", ()), ())))
        self.assertEqual(self.steps((2, 0, (0,))), (6, (("end", "(1 . 2)"), ())))


if __name__ == "__main__":
    unittest.main()
