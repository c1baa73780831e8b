"""[54] to [58], [62]: symbolic standings, quiet ways, events, and the rows' side of walks."""

import os
import sys
import unittest

sys.path.insert(0, os.path.dirname(os.path.abspath(__file__)))

from samples import call, const, fn, iff, let, prim, programs, put, seq, var, with_map, with_row

from keptrest.code import code_form, named_points, sure_numbers
from keptrest.codegen import compiled
from keptrest.errors import EmptyRead
from keptrest.walks import after_event, event_of, quiet_way, rows_way, standing_of

START = ("eval", (), (), ())
R0, R1, R2 = [("result", k) for k in range(3)]
S0, S1, S2 = [("slot", k) for k in range(3)]
V = ("value",)
ADD = prim("add", prim("ask"), const(2))
ADD_CODE = ((("prim", "ask", (0,), (), 1), ("to", 0, 2), ("load", 2, 3), ("to", 1, 4), ("prim", "add", (), (0, 1), 5), ("back",)),
            (START, None, None, None, None, None), (), 0)
PAIRS = prim("pair", prim("pair", const(1), const(2)), prim("pair", const(3), const(4)))
PAIRS_CODE = ((("load", 1, 1), ("to", 0, 2), ("load", 2, 3), ("to", 1, 4), ("make", ("pair",), (0,), (0, 1), (), 5), ("to", 0, 6),
               ("load", 3, 7), ("to", 1, 8), ("load", 4, 9), ("to", 2, 10), ("make", ("pair",), (1,), (1, 2), (0,), 11), ("to", 1, 12),
               ("make", ("pair",), (), (0, 1), (), 13), ("back",)), (START,) + (None,) * 13, (), 0)


def walk(program, standing, sure=(), answers=()):
    """The events from a standing on, with answers True for tests; the end last."""
    events = []
    many = 0
    while True:
        event = event_of(program, standing, sure)
        events.append(event)
        if event[0] in ("call", "known", "keep", "wind", "stop", "back"):
            return events
        answer = {"fill": None, "test": True}.get(event[0], ("result", many))
        many += event[0] not in ("fill", "test")
        standing = after_event(program, standing, answer)


def begin(program):
    return (("eval", (), ()), ())


class Case(unittest.TestCase):
    def same(self, one, other):
        self.assertEqual(repr(one), repr(other))


class Example(Case):
    """[62] (a)."""

    def test_quiet_way(self):
        self.same(standing_of(ADD_CODE, 0), (("eval", (), ()), ()))
        self.same(quiet_way(ADD, standing_of(ADD_CODE, 0)),
                  ((("eval", (), ()), ()), (("eval", (0,), ()), (("args", (), 0, ()),))))

    def test_events(self):
        first = standing_of(ADD_CODE, 0)
        self.same(event_of(ADD, first, ()), ("prim", "ask", (0,), ()))
        second = after_event(ADD, first, R0)
        self.same(second, (("give", R0), (("args", (), 0, ()),)))
        self.same(quiet_way(ADD, second), (second, (("eval", (1,), ()), (("args", (), 1, (R0,)),)),
                                           (("give", 2), (("args", (), 1, (R0,)),))))
        self.same(event_of(ADD, second, ()), ("prim", "add", (), (R0, 2)))
        self.same(event_of(ADD, after_event(ADD, second, R1), ()), ("back", R1))

    def test_rows(self):
        side = (("prim", "ask", (0,), ()), ("prim", "add", (), (R0, 2)), ("end", ("back", R1), ()))
        self.same(rows_way(ADD, ADD_CODE, 0), (side,))
        with self.assertRaises(EmptyRead) as caught:
            rows_way(ADD, with_row(ADD_CODE, 1, ("to", 1, 2)), 0)
        self.assertEqual(caught.exception.point, 4)

    def test_pairs(self):
        """[62] (b)."""
        makings = [("make", ("pair",), (0,), (1, 2), ()), ("make", ("pair",), (1,), (3, 4), (R0,)),
                   ("make", ("pair",), (), (R0, R1), (R0, R1))]
        self.same(walk(PAIRS, begin(PAIRS)), makings + [("back", R2)])
        self.same(rows_way(PAIRS, PAIRS_CODE, 0), ((*makings, ("end", ("back", R2), ())),))
        without = with_row(PAIRS_CODE, 10, ("make", ("pair",), (1,), (1, 2), (), 11))
        with self.assertRaises(EmptyRead) as caught:
            rows_way(PAIRS, without, 0)
        self.assertEqual(caught.exception.point, 12)
        more = with_row(PAIRS_CODE, 10, ("make", ("pair",), (1,), (1, 2), (0, 1), 11))
        self.same(rows_way(PAIRS, more, 0), rows_way(PAIRS, PAIRS_CODE, 0))


class Meaning(Case):
    """Each event and each end of [56]."""

    def test_boxes(self):
        program = let(0, prim("ask"), seq(put(0, const(True)), var(0)))
        events = walk(program, begin(program))
        self.same(events, [("prim", "ask", (0,), ()), ("make", ("box",), (), (R0,), (R0,)), ("fill", R1, True), ("open", R1), ("back", R2)])

    def test_making_functions(self):
        inner = let(2, var(0), fn(prim("pair", var(0), var(2))))
        program = fn(inner, 0)
        self.same(walk(program, (("eval", (0,), (S0,)), ())),
                  [("make", ("fn",), (0, 1), (S0, S0), (S0,)), ("back", R0)])
        self.same(walk(program, (("eval", (0,), (True,)), ())), [("make", ("fn",), (0, 1), (True, True), ()), ("back", R0)])

    def test_roots_are_signs_in_order(self):
        program = prim("pair", prim("ask"), prim("pair", prim("ask"), const(7)))
        frame = ("args", (), 1, (S1,))
        standing = (("eval", (1,), ()), (frame,))
        self.same(walk(program, standing), [("prim", "ask", (1, 0), ()), ("make", ("pair",), (1,), (R0, 7), (R0, S1)),
                                            ("make", ("pair",), (), (S1, R1), (R1, S1)), ("back", R2)])
        standing = (("give", V), (("args", (), 1, (S2,)), ("args", (1,), 1, (S0,))))
        self.same(event_of(program, standing, ()), ("make", ("pair",), (1,), (S0, V), (S0, S2, V)))
        frames = (("args", (), 1, (R0,)), ("args", (1,), 1, (R0,)))
        self.same(event_of(program, (("give", R0), frames), ()), ("make", ("pair",), (1,), (R0, R0), (R0,)))

    def test_tests(self):
        program = iff(prim("ask"), const(1), prim("give up", const(2)))
        first = begin(program)
        second = after_event(program, first, R0)
        self.same(event_of(program, second, ()), ("test", R0))
        self.same(event_of(program, after_event(program, second, True), ()), ("back", 1))
        self.same(event_of(program, after_event(program, second, False), ()), ("stop", "given up", (2,)))

    def test_constants_decide_tests(self):
        for value in (True, 1, 0, (), ("name", "no")):
            self.same(walk(iff(const(value), const(5), const(6)), begin(None)), [("back", 5)])
        self.same(walk(iff(const(False), const(5), const(6)), begin(None)), [("back", 6)])

    def test_constant_prims(self):
        self.same(walk(prim("add", const(1), const(2)), begin(None)), [("back", 3)])
        self.same(walk(prim("same", const(1), const(True)), begin(None)), [("back", False)])
        self.same(walk(prim("is truth", const(True)), begin(None)), [("back", True)])
        self.same(walk(iff(prim("below", const(2), const(1)), const(5), const(6)), begin(None)), [("back", 6)])
        self.same(walk(prim("over", const(1), const(0)), begin(None)), [("stop", "zero", ())])
        self.same(walk(prim("add", const(1), const(True)), begin(None)), [("stop", "kind", ())])
        self.same(walk(prim("times", const(10 ** 20), const(10 ** 20)), begin(None)), [("stop", "range", ())])
        self.same(walk(prim("first", const(())), begin(None)), [("stop", "kind", ())])
        self.same(walk(prim("show", const(1)), begin(None)), [("prim", "show", (), (1,)), ("back", R0)])
        self.same(walk(prim("more"), begin(None)), [("prim", "more", (), ()), ("back", R0)])
        self.same(walk(prim("give up", const(1)), begin(None)), [("stop", "given up", ())])
        self.same(walk(prim("pair", const(1), const(2)), begin(None))[0], ("make", ("pair",), (), (1, 2), ()))

    def test_calls(self):
        program = fn(call(var(0), var(1), const(3)), 0, 1)
        body = (("eval", (0,), (S0, S1)), ())
        self.same(walk(program, body), [("call", (0,), (S0, S1, 3))])
        self.same(walk(program, body, ((S1, ()),)), [("call", (0,), (S0, S1, 3))])
        self.same(walk(program, body, ((S0, ()),)), [("known", (0,), (), (S0, S1, 3))])
        for value in (5, True, (), ("name", "f")):
            self.same(walk(program, (("eval", (0,), (value, S1)), ())), [("stop", "no function", (0,))])

    def test_sure_functions_with_wrong_numbers(self):
        for params, rest, fits in (((1,), None, False), ((1, 2), None, True), ((1, 2, 3), None, False), ((), 1, True), ((1, 2), 3, True),
                                   ((1, 2, 3), 4, False)):
            program = let(0, fn(const(1), *params, rest=rest), call(var(0), const(1), const(2)))
            end = walk(program, (("eval", (1,), (S0,)), ()), ((S0, (0,)),))
            self.same(end, [("known", (1,), (0,), (S0, 1, 2)) if fits else ("stop", "count", (1,))])

    def test_keep_and_wind(self):
        program = fn(prim("keep", var(0)), 0)
        self.same(walk(program, (("eval", (0,), (S0,)), ())), [("keep", (0,), S0)])
        self.same(walk(program, (("eval", (0,), (5,)), ())), [("keep", (0,), 5)])
        program = fn(prim("wind", var(0), const(False), var(1)), 0, 1)
        self.same(walk(program, (("eval", (0,), (S0, S1)), ())), [("wind", (0,), (S0, False, S1))])

    def test_quiet_steps(self):
        program = fn(let(1, var(0), seq(put(1, const(5)), prim("add", var(0), const(1)))), 0)
        p = (0,)
        frame = ("let", p, 0, (S0,))
        self.same(quiet_way(program, (("eval", p, (S0,)), ())),
                  ((("eval", p, (S0,)), ()), (("eval", p + (0,), (S0,)), (frame,)), (("give", S0), (frame,))))
        behind = after_event(program, (("give", S0), (frame,)), R0)
        q = p + (1,)
        self.same(quiet_way(program, behind), (
            (("eval", q, (S0, R0)), ()), (("eval", q + (0,), (R0,)), (("seq", q, 0, (S0,)),)),
            (("eval", q + (0, 0), ()), (("seq", q, 0, (S0,)), ("set", q + (0,), 0, (R0,)))),
            (("give", 5), (("seq", q, 0, (S0,)), ("set", q + (0,), 0, (R0,))))))

    def test_standings_of_named_points(self):
        program = fn(let(1, var(0), seq(put(1, const(5)), prim("wind", var(0), var(1), const(1)))), 0)
        q = (0, 1)
        chart = ("eval", q + (1, 2), (), (("seq", q, 0, (3, 1)), ("set", q + (0,), 0, (0,)), ("args", q + (1,), 2, (("const", True), 2))))
        code = (((("back"),),), (chart,), (), 0)
        self.same(standing_of(code, 0), (("eval", q + (1, 2), ()), (
            ("seq", q, 0, (("slot", 3), S1)), ("set", q + (0,), 0, (S0,)), ("args", q + (1,), 2, (True, S2)))))
        self.same(standing_of(((("back",),), (("give", ()),), (), 0), 0), (("give", V), ()))
        self.same(standing_of(((("back",),), (("eval", (0,), (("const", ()),), ()),), (), 0), 0), (("eval", (0,), ((),)), ()))


class Rows(Case):
    """The rows' side ([57])."""

    PROGRAM = let(0, prim("ask"), seq(put(0, const(1)), let(1, fn(var(0)), prim("add", call(var(1)), const(2)))))

    def code(self, *rows, maps=(), program=None):
        maps = dict(maps)
        code = (rows, tuple(maps.get(k, START if k == 0 else None) for k in range(len(rows))), (), 0)
        if program is not None:
            self.assertTrue(code_form(program, code))
        return code

    def way(self, program, *rows, maps=(), point=0):
        return rows_way(program, self.code(*rows, maps=maps, program=program), point)

    def empty_at(self, point, program, *rows, maps=()):
        with self.assertRaises(EmptyRead) as caught:
            self.way(program, *rows, maps=maps)
        self.assertEqual(caught.exception.point, point)

    def test_true_sides_come_first(self):
        program = iff(prim("more"), iff(prim("more"), const(1), const(2)), const(3))
        more = ("prim", "more", (0,), ())
        inner = ("prim", "more", (1, 0), ())
        sides = self.way(program, ("prim", "more", (0,), (), 1), ("test", 2, 6), ("prim", "more", (1, 0), (), 3), ("test", 4, 5),
                         ("load", 1, 7), ("load", 2, 7), ("load", 3, 7), ("back",))
        self.same(sides, ((more, ("test", R0, True), inner, ("test", R1, True), ("end", ("back", 1), ())),
                          (more, ("test", R0, True), inner, ("test", R1, False), ("end", ("back", 2), ())),
                          (more, ("test", R0, False), ("end", ("back", 3), ()))))

    def test_constants_decide_tests(self):
        self.same(self.way(const(1), ("load", False, 1), ("test", 2, 3), ("load", 5, 3), ("back",)), ((("end", ("back", False), ()),),))
        self.same(self.way(const(1), ("load", 0, 1), ("test", 2, 3), ("load", 5, 3), ("back",)), ((("end", ("back", 5), ()),),))

    def test_named_ends(self):
        sides = self.way(const(1), ("load", True, 1), ("to", 2, 2), ("back",), maps={2: ("give", ())})
        self.same(sides, ((("named", 2, True, (None, None, True), ()),),))
        program = prim("show", const(1))
        chart = ("give", (("args", (), 0, ()),))
        sides = self.way(program, ("load", 7, 1), ("to", 1, 2), ("push", 3, (), 3), ("back",), maps={3: chart})
        self.same(sides, ((("named", 3, 7, (None, 7), ((3, ()),)),),))

    def test_go(self):
        program = prim("over", const(1), const(2))
        chart = ("eval", (1,), (), (("args", (), 1, (1,)),))
        rows = (("load", True, 1), ("to", 4, 2), ("load", 3, 3), ("to", 0, 4), ("go", 5, (0, 4)), ("from", 1, 6), ("back",))
        self.same(self.way(program, *rows, maps={5: chart}), ((("named", 5, 3, (3, True), ()),),))
        self.same(self.way(program, *rows, maps={5: chart}, point=5), ((("end", ("back", S1), ()),),))
        self.empty_at(4, program, *rows[:4], ("go", 5, (0, 3)), *rows[5:], maps={5: chart})

    def test_signs_at_the_beginning(self):
        program = fn(prim("add", var(0), const(1)), 0)
        maps = {1: ("eval", (0,), (3,), ()), 2: ("give", (("args", (0,), 1, (1,)),))}
        code = self.code(("back",), ("from", 3, 2), ("back",), maps=maps)
        self.same(rows_way(program, code, 1), ((("named", 2, ("slot", 3), (None, None, None, ("slot", 3)), ()),),))
        self.same(rows_way(program, code, 2), ((("end", ("back", V), ()),),))

    def test_boxes_and_pushed_frames(self):
        program = self.PROGRAM
        code = compiled(program)
        rows = code[0]
        sides = rows_way(program, code, 0)
        point = next(k for k, row in enumerate(rows) if row[0] == "push")
        self.assertEqual(len(sides), 1)
        self.same(sides[0][:4], (("prim", "ask", (0,), ()), ("make", ("box",), (), (R0,), (R0,)), ("fill", R1, 1),
                                 ("make", ("fn",), (1, 1, 0), (R1,), (R1,))))
        self.same(sides[0][4], ("named", rows[point][3], R2, (R2,), ((rows[point][1], ()),)))

    def test_sure_functions(self):
        program = let(0, fn(const(1), 1), call(var(0), const(5)))
        making = ("make", ("fn",), (0,), (), (), 1)
        made = ("make", ("fn",), (0,), (), ())
        rows = (making, ("to", 0, 2), ("load", 5, 3), ("to", 1, 4))
        entry = (((0,), 1, False, (False, False), (), 4),)

        def way(last):
            code = (rows + (last, ("back",)), (START,) + (None,) * 4 + (("eval", (0, 0), (), ()),), ((*entry[0][:5], 5),), 0)
            self.assertTrue(code_form(program, code))
            return rows_way(program, code, 0)

        self.same(way(("call", (1,), (0, 1))), ((made, ("end", ("known", (1,), (0,), (R0, 5)), ())),))
        self.same(way(("known", (1,), (0,), (0, 1))), ((made, ("end", ("known", (1,), (0,), (R0, 5)), ())),))
        self.same(way(("call", (1,), (1, 0))), ((made, ("end", ("stop", "no function", (1,)), ())),))
        self.same(way(("known", (1,), (0,), (1, 0))), ((made, ("end", ("known", (1,), (0,), (5, R0)), ())),))

    def test_sure_functions_of_maps(self):
        for program, end in (
                (let(0, fn(const(1), 1), seq(prim("show", const(1)), call(var(0), const(5)))), ("known", (1, 1), (0,), (S0, 5))),
                (let(0, fn(const(1), 1, 2), seq(prim("show", const(1)), call(var(0), const(5)))), ("stop", "count", (1, 1))),
                (let(0, fn(const(1), 1), seq(put(0, const(1)), call(var(0), const(5)))), ("call", (1, 1), (S0, 5))),
                (let(0, prim("ask"), seq(prim("show", const(1)), call(var(0), const(5)))), ("call", (1, 1), (S0, 5)))):
            place = (1, 1)
            rows = (("back",), ("load", 5, 2), ("to", 1, 3), ("call", place, (0, 1)))
            code = (rows, (START, ("eval", place, (0,), ()), None, None), (), 0)
            self.same(rows_way(program, code, 1), ((("end", end, ()),),))
            frame = ("seq", place[:-1], 0, (0,))
            code = (rows, (START, ("give", (frame,)), None, None), (), 0)
            self.same(rows_way(program, code, 1), ((("end", end, ()),),))

    def test_constant_prims(self):
        program = prim("over", const(1), const(0))
        rows = (("load", 1, 1), ("to", 0, 2), ("load", 0, 3), ("to", 1, 4), ("prim", "over", (), (0, 1), 5), ("back",))
        self.same(self.way(program, *rows), ((("end", ("stop", "zero", ()), ()),),))
        rows = rows[:2] + (("load", 2, 3),) + rows[3:]
        self.same(self.way(program, *rows), ((("end", ("back", 0), ()),),))
        program = prim("same", const(1), const(True))
        rows = (("load", 1, 1), ("to", 0, 2), ("load", True, 3), ("to", 1, 4), ("prim", "same", (), (0, 1), 5), ("back",))
        self.same(self.way(program, *rows), ((("end", ("back", False), ()),),))
        rows = rows[:4] + (("prim", "same", (), (0, 0), 5),) + rows[5:]
        self.same(self.way(program, *rows), ((("end", ("back", True), ()),),))

    def test_what_makes_leave_behind(self):
        rows = PAIRS_CODE[0]
        self.empty_at(6, PAIRS, *rows[:6], ("from", 1, 13), *rows[7:])
        self.empty_at(12, PAIRS, *rows[:10], ("make", ("pair",), (1,), (1, 2), (), 11), *rows[11:])

    def test_reads_of_nothing(self):
        end = ("back",)
        show = prim("show", const(1))
        for program, row in ((const(1), end), (const(1), ("to", 0, 1)), (const(1), ("test", 1, 1)), (const(1), ("from", 0, 1)),
                             (const(1), ("open", 0, 1)), (const(1), ("fill", 0, 1)), (show, ("prim", "show", (), (0,), 1)),
                             (prim("keep", const(1)), ("keep", (), 0)), (call(const(1)), ("call", (), (0,))),
                             (prim("wind", const(1), const(1), const(1)), ("wind", (), (0, 0, 0))),
                             (prim("pair", const(1), const(1)), ("make", ("pair",), (), (0, 0), (), 1))):
            self.empty_at(0, program, row, end)
        self.empty_at(2, const(1), ("load", 1, 1), ("to", 1, 2), ("from", 0, 3), end)
        self.empty_at(2, const(1), ("load", 1, 1), ("to", 1, 2), ("from", 2, 3), end)
        self.empty_at(2, const(1), ("load", 1, 1), ("to", 1, 2), ("fill", 0, 3), end)
        self.empty_at(2, prim("pair", const(1), const(1)), ("load", 1, 1), ("to", 1, 2), ("make", ("pair",), (), (1, 1), (0,), 3), end)

    def test_the_false_side_may_be_the_one_that_lacks(self):
        program = iff(prim("more"), const(1), const(2))
        self.empty_at(3, program, ("prim", "more", (0,), (), 1), ("test", 2, 3), ("back",), ("from", 0, 2))

    def test_stop_and_wind(self):
        program = prim("wind", const(1), const(2), const(3))
        rows = (("load", 1, 1), ("to", 0, 2), ("wind", (), (0, 0, 0)))
        self.same(self.way(program, *rows), ((("end", ("wind", (), (1, 1, 1)), ()),),))
        self.same(self.way(call(const(1)), ("stop", "count", ())), ((("end", ("stop", "count", ()), ()),),))
        self.same(self.way(prim("keep", const(1)), ("load", 1, 1), ("to", 0, 2), ("keep", (), 0)), ((("end", ("keep", (), 1), ()),),))


class Compiled(Case):
    def test_both_sides_of_compiled_codes(self):
        """The events of each first side are those of the meaning."""
        for name, program, _ in programs():
            code = compiled(program)
            sure = dict(sure_numbers(program))
            for point in named_points(code):
                chart = code[1][point]
                if chart[0] != "eval" or chart[3] or sure:
                    continue
                side = rows_way(program, code, point)[0]
                standing = standing_of(code, point)
                many = 0
                for event in side[:-1]:
                    told = event_of(program, standing, ())
                    self.same(event[:2] if event[0] == "test" else event, told)
                    answer = True if event[0] == "test" else None if event[0] == "fill" else ("result", many)
                    many += event[0] not in ("test", "fill")
                    standing = after_event(program, standing, answer)
                if side[-1][0] == "end" and side[-1][1][0] != "known":
                    self.same(event_of(program, standing, ()), side[-1][1], )


if __name__ == "__main__":
    unittest.main()
