"""[51] to [53]: codes, their form, named points, window sizes and sure numbers."""

import os
import sys
import unittest

sys.path.insert(0, os.path.dirname(os.path.abspath(__file__)))

from samples import call, changed, const, fn, iff, let, prim, programs, put, seq, var, with_entry, with_map, with_row

from keptrest.code import code_form, named_points, sure_numbers, window_size
from keptrest.codegen import compiled

ADD = prim("add", prim("ask"), const(2))
ADD_ROWS = (("prim", "ask", (0,), (), 1), ("to", 0, 2), ("load", 2, 3), ("to", 1, 4), ("prim", "add", (), (0, 1), 5), ("back",))
ADD_MAPS = (("eval", (), (), ()), None, None, None, None, None)
ADD_CODE = (ADD_ROWS, ADD_MAPS, (), 0)
START = ("eval", (), (), ())

# One program with nodes of each kind: let 0 (ask); seq (set 0 ..) (let 1 fn ..; ..)
ALL = let(0, prim("ask"), seq(put(0, prim("pair", const(1), var(0))), let(1, fn(prim("pair", var(2), var(0)), 2), iff(
    var(0), seq(prim("wind", var(1), var(1), var(1)), prim("keep", var(1))),
    prim("add", call(var(1), const(5)), prim("show", prim("give up", const(3))))))))
P_LET, P_SEQ, P_SET, P_LET1, P_FN, P_IF = (), (1,), (1, 0), (1, 1), (1, 1, 0), (1, 1, 1)
P_ADD, P_CALL, P_SHOW, P_UP = (1, 1, 1, 2), (1, 1, 1, 2, 0), (1, 1, 1, 2, 1), (1, 1, 1, 2, 1, 0)
P_WIND, P_KEEP, P_PAIR = (1, 1, 1, 1, 0), (1, 1, 1, 1, 1), (1, 0, 0)
FRAME = ("args", P_ADD, 0, ())
ALL_ROWS = (
    ("load", 1, 1), ("from", 0, 2), ("to", 59, 3), ("open", 0, 4), ("fill", 0, 5), ("prim", "ask", (0,), (), 6),
    ("prim", "show", P_SHOW, (3,), 7), ("make", ("fn",), P_FN, (0,), (0, 1), 8), ("make", ("box",), P_LET, (4,), (), 9),
    ("make", ("pair",), P_PAIR, (4, 4), (59,), 10), ("test", 11, 12), ("push", 13, (), 12), ("go", 14, (1,)),
    ("back",), ("call", P_CALL, (0, 1)), ("known", P_CALL, P_FN, (0, 1)), ("keep", P_KEEP, 0), ("wind", P_WIND, (0, 1, 2)),
    ("stop", "given up", P_UP), ("stop", "count", P_CALL),
)
ENTRY = (P_FN, 1, False, (False, False), (("own", 0), ("handed", 0)), 16)
ALL_MAPS = (START,) + (None,) * 12 + (("give", (FRAME,)), ("give", (("let", P_LET, 0, ()), ("set", P_SET, 0, (0,)))), None,
                                      ("eval", P_FN + (0,), (0, 1), ()), None, None, None)
ALL_CODE = (ALL_ROWS, ALL_MAPS, (ENTRY,), 0)

GOOD = {
    "next": (0, 13, 19),
    "constant": (0, True, False, (), ("name", "x"), 10 ** 30 - 1, 1 - 10 ** 30),
    "slot": (0, 59),
    "stop": ("range", "zero", "kind", "count", "no function", "given up"),
}
BAD_POINTS = (20, -1, None, True, "0", (0,))
BAD_SLOTS = (60, -1, True, None, "1", (1,))
BAD_PLACES = (P_IF, P_SEQ, (7,), (1, 1, 1, 2, 9), None, 0, (1, True), "p", (-1,), (1, (1,)))
BAD = {
    "next": BAD_POINTS,
    "point": BAD_POINTS + (0, 1),
    "constant": (10 ** 30, -10 ** 30, None, "x", ("name", "X"), ("name",), (1,), ("thing", 0)),
    "slot": BAD_SLOTS,
    "slots": tuple((0,) * k + (slot,) for slot in BAD_SLOTS for k in (0, 1, 2)) + (None, 1, [0], (0,) * 9),
    "live": tuple((slot,) for slot in BAD_SLOTS) + ((1, 0), (3, 3), 0, None),
    "place": BAD_PLACES,
    "prim": ("pair", "keep", "wind", "give up", "nothing", 5, None, ("add",), "add"),
    "what": ("fn", ("pairs",), (), ("fn", "fn"), None, ("kept",)),
    "stop": ("memory", "deep", "input", "x", None, ("count",)),
}
FIELDS = {
    "load": ("constant", "next"), "from": ("slot", "next"), "to": ("slot", "next"), "open": ("slot", "next"),
    "fill": ("slot", "next"), "prim": ("prim", "place", "slots", "next"),
    "make": ("what", "place", "slots", "live", "next"), "test": ("next", "next"), "push": ("point", "slots", "next"),
    "go": ("point", "slots"), "back": (), "call": ("place", "slots"), "known": ("place", "place", "slots"),
    "keep": ("place", "slot"), "wind": ("place", "slots"), "stop": ("stop", "place"),
}


class Case(unittest.TestCase):
    def good(self, code, program=ALL):
        self.assertIs(code_form(program, code), True)

    def bad(self, code, program=ALL, why=None):
        self.assertIs(code_form(program, code), False, why)


class Form(Case):
    def test_compiled_codes_have_the_form(self):
        for name, program, _ in programs():
            self.assertIs(code_form(program, compiled(program)), True, name)

    def test_the_codes_that_are_bent_below(self):
        self.good(ADD_CODE, ADD)
        self.good(ALL_CODE)
        self.assertEqual({row[0] for row in ALL_ROWS}, set(FIELDS))

    def test_what_is_no_code_at_all(self):
        for value in (None, 5, True, "code", (), (1, 2, 3), (ADD_ROWS, ADD_MAPS, ()), ADD_CODE + (0,), list(ADD_CODE),
                      ((), (), (), 0), (None, ADD_MAPS, (), 0), (ADD_ROWS, None, (), 0), (ADD_ROWS, ADD_MAPS, None, 0),
                      (ADD_ROWS, ADD_MAPS, (), None), (ADD_ROWS, ADD_MAPS[1:], (), 0), (ADD_ROWS, ADD_MAPS + (None,), (), 0),
                      (ADD_ROWS, ADD_MAPS, ((),), 0), (ADD_ROWS, ADD_MAPS, (), 6), (ADD_ROWS, ADD_MAPS, (), -1),
                      (ADD_ROWS, ADD_MAPS, (), False), ((), ADD_MAPS, (), 0)):
            self.bad(value, ADD, value)

    def test_rows_of_each_kind(self):
        for point, row in enumerate(ALL_ROWS):
            for at, field in enumerate(FIELDS[row[0]]):
                for value in GOOD.get(field, ()):
                    if not (row[0] == "to" and field == "slot"):
                        self.good(with_row(ALL_CODE, point, changed(row, at + 1, value)))
                for value in BAD[field]:
                    self.bad(with_row(ALL_CODE, point, changed(row, at + 1, value)), why=(row, field, value))
            self.bad(with_row(ALL_CODE, point, row[:-1]))
            self.bad(with_row(ALL_CODE, point, row + (0,)))
            self.bad(with_row(ALL_CODE, point, (row[0].upper(),) + row[1:]))
            self.bad(with_row(ALL_CODE, point, None))
            self.bad(with_row(ALL_CODE, point, ()))
            self.bad(with_row(ALL_CODE, point, (5,) + row[1:]))

    def test_slots_at_the_edge(self):
        self.good(with_row(ADD_CODE, 1, ("to", 59, 2)), ADD)
        self.bad(with_row(ADD_CODE, 1, ("to", 60, 2)), ADD)
        self.good(with_row(ADD_CODE, 4, ("prim", "add", (), (59, 0), 5)), ADD)
        self.bad(with_row(ADD_CODE, 4, ("prim", "add", (), (60, 0), 5)), ADD)

    def test_numbers_of_slots(self):
        for row in (("prim", "show", P_SHOW, (), 7), ("prim", "show", P_SHOW, (1, 2), 7)):
            self.bad(with_row(ALL_CODE, 6, row))
        for slots in ((), (0, 1)):
            self.bad(with_row(ALL_CODE, 7, ("make", ("fn",), P_FN, slots, (), 8)))
            self.bad(with_row(ALL_CODE, 8, ("make", ("box",), P_LET, slots, (), 9)))
        for slots in ((), (0,), (0, 1, 2)):
            self.bad(with_row(ALL_CODE, 9, ("make", ("pair",), P_PAIR, slots, (), 10)))
            self.bad(with_row(ALL_CODE, 14, ("call", P_CALL, slots)))
            self.bad(with_row(ALL_CODE, 15, ("known", P_CALL, P_FN, slots)))
        for slots in ((), (0, 1), (0, 1, 2, 3)):
            self.bad(with_row(ALL_CODE, 17, ("wind", P_WIND, slots)))

    def test_terms_that_do_not_fit(self):
        for point, row in ((8, ("make", ("box",), P_LET1, (0,), (), 9)), (8, ("make", ("pair",), P_LET, (0, 0), (), 9)),
                           (5, ("prim", "more", (0,), (), 6)), (6, ("prim", "is pair", P_SHOW, (0,), 7)),
                           (16, ("keep", P_WIND, 0)), (17, ("wind", P_KEEP, (0, 0, 0))),
                           (15, ("known", P_CALL, P_LET, (0, 1))), (18, ("stop", "count", P_FN)), (18, ("stop", "count", P_IF))):
            self.bad(with_row(ALL_CODE, point, row), why=row)
        for place in (P_ADD, P_WIND, P_KEEP, P_PAIR, (0,)):
            self.good(with_row(ALL_CODE, 18, ("stop", "zero", place)))

    def test_known_may_have_a_wrong_number_of_values(self):
        program = let(0, fn(const(1)), call(var(0), const(1)))
        rows = (("load", 1, 1), ("known", (1,), (0,), (0, 1)), ("back",))
        maps = (START, None, ("eval", (0, 0), (), ()))
        self.good((rows, maps, (((0,), 0, False, (False,), (), 2),), 0), program)


class Maps(Case):
    def map_at(self, chart):
        return with_map(ALL_CODE, 15, chart)

    def test_control(self):
        for chart in (("eval", P_PAIR, (0,), ()), ("eval", P_FN, (59,), ()), ("eval", (0,), (), ()), ("give", ()),
                      ("eval", P_IF, (0, 0), ()), ("eval", P_IF, (1, ("const", 7)), ())):
            self.good(self.map_at(chart))
        for chart in ((), ("eval",), ("give",), ("take", ()), ("eval", P_PAIR, (0,)), ("eval", P_PAIR, (), ()),
                      ("eval", P_PAIR, (0, 1), ()), ("eval", (9,), (), ()), ("eval", (0,), None, ()), ("give", None),
                      ("give", (), ()), 5, True, "give", ("eval", (0,), (), (), ()), (("give",), ()),
                      ("eval", P_PAIR, (60,), ()), ("eval", P_PAIR, (True,), ()), ("eval", P_PAIR, (None,), ())):
            self.bad(self.map_at(chart), why=chart)

    def test_boxes_are_not_named_by_constants(self):
        self.bad(self.map_at(("eval", P_PAIR, (("const", 1),), ())))
        self.bad(self.map_at(("eval", P_IF, (("const", 1), 0), ())))
        self.bad(self.map_at(("give", (("set", P_SET, 0, (("const", 1),)),))))
        self.bad(self.map_at(("give", (("let", P_LET1, 0, (("const", 1),)),))))
        for constant in (5, True, (), ("name", "b")):
            self.good(self.map_at(("eval", P_IF, (0, ("const", constant)), ())))
        for source in (("const", "x"), ("const",), ("const", 10 ** 30), ("const", 1, 2), ("slot", 1), ()):
            self.bad(self.map_at(("eval", P_IF, (0, source), ())), why=source)

    def test_frames_of_each_kind(self):
        frames = (("if", P_IF, 0, (1,)), ("let", P_LET, 0, ()), ("let", P_LET1, 0, (0,)), ("seq", P_SEQ, 0, (0,)),
                  ("set", P_SET, 0, (0,)), ("args", P_ADD, 0, ()), ("args", P_ADD, 1, (2,)), ("args", P_CALL, 0, ()),
                  ("args", P_CALL, 1, (("const", 4),)), ("args", P_PAIR, 0, (0,)), ("args", P_PAIR, 1, (5,)),
                  ("args", P_WIND, 0, (3,)), ("args", P_WIND, 1, (3, 4)), ("args", P_WIND, 2, (3, 3)), ("args", P_KEEP, 0, ()))
        self.good(self.map_at(("give", frames)))
        for frame in frames:
            kind, place, done, sources = frame
            for more in (sources[:-1] if sources else (0, 0), sources + (0,)):
                self.bad(self.map_at(("give", ((kind, place, done, more),))), why=frame)
            for other in ("if", "let", "seq", "set", "args", "fn", "began", 5, None):
                if other != kind:
                    self.bad(self.map_at(("give", ((other, place, done, sources),))), why=(frame, other))
            for other in (-1, True, None, 3 if kind == "args" else 1):
                self.bad(self.map_at(("give", ((kind, place, other, sources),))), why=(frame, other))
            self.bad(self.map_at(("give", (frame[:3],))))
            self.bad(self.map_at(("give", (frame + (0,),))))
            self.bad(self.map_at(("give", ((kind, (9,), done, sources),))))
            self.bad(self.map_at(("give", ((kind, place, done, None),))))
        self.bad(self.map_at(("give", (("args", P_CALL, 2, (0, 0)),))))
        self.bad(self.map_at(("give", (("args", (0,), 0, ()),))))

    def test_done_values_may_be_constants(self):
        self.good(self.map_at(("give", (("args", P_WIND, 2, (("const", 1), ("const", True))),))))
        self.good(self.map_at(("give", (("args", P_WIND, 1, (("const", 1), 0)),))))
        self.bad(self.map_at(("give", (("args", P_WIND, 1, (("const", 10 ** 30), 0)),))))

    def test_start(self):
        self.bad(with_map(ALL_CODE, 0, None))
        self.bad(with_map(ALL_CODE, 0, ("give", ())))
        self.bad(with_map(ALL_CODE, 0, ("eval", (0,), (), ())))
        self.bad(with_map(ALL_CODE, 0, ("eval", (), (), (("let", P_LET, 0, ()),))))
        self.bad((*ALL_CODE[:3], 1))
        self.bad((*ALL_CODE[:3], 13))


class Targets(Case):
    def test_push(self):
        frame = ("args", P_WIND, 2, (0, 1))
        code = with_map(with_row(ALL_CODE, 11, ("push", 13, (4, 9), 12)), 13, ("give", (frame,)))
        self.good(code)
        for chart in (None, ("give", ()), ("give", (frame, frame)), ("give", (("args", P_WIND, 2, (1, 0)),)),
                      ("give", (("args", P_WIND, 2, (0, 0)),)), ("give", (("args", P_WIND, 2, (0, ("const", 1))),)),
                      ("give", (("args", P_WIND, 2, (0, 2)),)), ("eval", P_FN + (0,), (0, 1), ())):
            self.bad(with_map(code, 13, chart), why=chart)
        for slots in ((), (4,), (4, 9, 1)):
            self.bad(with_row(code, 11, ("push", 13, slots, 12)))

    def test_go(self):
        self.bad(with_row(ALL_CODE, 12, ("go", 15, ())))
        self.bad(with_row(ALL_CODE, 12, ("go", 14, ())))
        self.bad(with_row(ALL_CODE, 12, ("go", 14, (1, 1))))
        code = with_map(ALL_CODE, 14, ("give", (("args", P_KEEP, 0, ()), ("set", P_SET, 0, (2,)))))
        self.good(with_row(code, 12, ("go", 14, (7, 7, 7))))
        self.bad(with_row(code, 12, ("go", 14, (7,))))
        self.good(with_row(ALL_CODE, 12, ("go", 0, ())))

    def test_entries(self):
        body = P_FN + (0,)
        for at, values in ((0, (P_LET, (9,), None, P_FN + (0,))), (1, (-1, True, None, 2)), (2, (0, None, "x")),
                           (3, ((False,), (False, False, False), (0, False), (False, True), None)),
                           (4, ((("own", 0),), (("own", 1), ("handed", 0)), (("own", -1), ("handed", 0)), (("own", 0), ("handed", 1)),
                                (("own", 0), ("handed", True)), (("own", 0), ("held", 0)), (("own", 0), ("handed",)), None,
                                (("own", 0), ("handed", 0), ("own", 0)))),
                           (5, (15, 0, 13, 20, -1, None, True))):
            for value in values:
                self.bad(with_entry(ALL_CODE, 0, changed(ENTRY, at, value)), why=(at, value))
        self.bad((*ALL_CODE[:2], (), 0))
        self.bad((*ALL_CODE[:2], (ENTRY, ENTRY), 0))
        self.bad(with_entry(ALL_CODE, 0, ENTRY[:-1]))
        self.bad(with_entry(ALL_CODE, 0, None))
        for chart in (None, ("eval", body, (1, 0), ()), ("eval", body, (0, 0), ()), ("eval", body, (0, 1), (("args", P_KEEP, 0, ()),)),
                      ("give", ())):
            self.bad(with_map(ALL_CODE, 16, chart), why=chart)

    def test_whose_entry_it_is_is_not_asked(self):
        for entry in ((P_FN, 1, True, (False, True), (("own", 0), ("handed", 1)), 16), (P_FN, 0, False, (False,), (("own", 0), ("own", 0)), 16),
                      (P_FN, 2, False, (True, True, False), (("handed", 1), ("handed", 1)), 16)):
            self.good(with_entry(ALL_CODE, 0, entry))

    def test_entries_stand_in_order(self):
        program = prim("pair", fn(const(1)), fn(const(2)))
        code = compiled(program)
        self.good(code, program)
        self.bad((*code[:2], code[2][::-1], code[3]), program)
        self.bad((*code[:2], code[2][:1], code[3]), program)


class Ways(Case):
    def test_rings(self):
        rows = (("load", 1, 1), ("to", 0, 2), ("from", 0, 1), ("back",))
        self.bad((rows, (START, None, None, None), (), 0), const(1))
        self.good((rows, (START, ("give", ()), None, None), (), 0), const(1))
        self.good((rows, (START, None, ("give", ()), None), (), 0), const(1))
        self.bad(((("back",), ("load", 1, 1)), (START, None), (), 0), const(1))
        self.good(((("load", 1, 0),), (START,), (), 0), const(1))
        self.bad(((("load", 1, 1), ("test", 1, 2), ("back",)), (START, None, None), (), 0), const(1))
        self.good(((("load", 1, 1), ("test", 0, 2), ("back",)), (START, None, None), (), 0), const(1))

    def row_of_tests(self, many, name_at=None):
        """So many tests, one behind the other, whose sides come together."""
        rows = [("load", 1, 1)] + [("test", k + 1, k + 1) for k in range(1, many + 1)] + [("back",)]
        maps = [START] + [None] * (many + 1)
        if name_at is not None:
            maps[name_at] = ("give", ())
        return (tuple(rows), tuple(maps), (), 0)

    def test_more_than_a_thousand_ways(self):
        self.good(self.row_of_tests(9), const(1))
        self.bad(self.row_of_tests(10), const(1))
        self.bad(self.row_of_tests(29000), const(1))
        self.good(self.row_of_tests(18, 10), const(1))
        self.bad(self.row_of_tests(20, 10), const(1))

    def test_just_a_thousand_ways(self):
        def code(many):
            row = [("load", 1, 1)] + [("test", k + 1, many) for k in range(1, many)] + [("back",)]
            return (tuple(row), (START,) + (None,) * many, (), 0)

        self.good(code(1000), const(1))
        self.bad(code(1001), const(1))

    def test_many_rows(self):
        rows = tuple(("load", 1, k + 1) for k in range(29999)) + (("back",),)
        self.good((rows, (START,) + (None,) * 29999, (), 0), const(1))
        self.bad((rows + (("back",),), (START,) + (None,) * 30000, (), 0), const(1))


class Facts(unittest.TestCase):
    def test_named_points(self):
        self.assertEqual(named_points(ALL_CODE), (0, 13, 14, 16))
        self.assertEqual(named_points(ADD_CODE), (0,))

    def test_window_sizes(self):
        self.assertEqual([window_size(ALL_CODE, k) for k in named_points(ALL_CODE)], [0, 0, 1, 2])
        frames = (("args", P_WIND, 2, (3, ("const", 99))), ("set", P_SET, 0, (17,)))
        self.assertEqual(window_size(with_map(ALL_CODE, 14, ("give", frames)), 14), 18)
        self.assertEqual(window_size(with_map(ALL_CODE, 14, ("eval", P_IF, (4, ("const", 50)), ())), 14), 5)
        self.assertEqual(window_size(with_map(ALL_CODE, 14, ("eval", P_IF, (4, 0), frames)), 14), 18)

    def test_sure_numbers(self):
        self.assertEqual(sure_numbers(ALL), ((1, P_FN),))
        self.assertEqual(sure_numbers(const(1)), ())
        self.assertEqual(sure_numbers(let(0, fn(const(1)), put(0, const(1)))), ())
        two = let(0, fn(let(1, fn(const(1)), var(1))), let(2, var(0), let(3, fn(var(2), 4), const(1))))
        self.assertEqual(sure_numbers(two), ((0, (0,)), (1, (0, 0, 0)), (3, (1, 1, 0))))


if __name__ == "__main__":
    unittest.main()
