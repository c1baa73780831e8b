"""[58] to [60]: the faults of codes."""

import os
import random
import sys
import unittest

sys.path.insert(0, os.path.dirname(os.path.abspath(__file__)))

import plain_meaning
from samples import (WIDE, call, changed, const, fn, iff, let, prim, program, programs, put, seq, var, with_entry, with_map,
                     with_row)
from test_walks import ADD, ADD_CODE, PAIRS, PAIRS_CODE, START

from keptrest.code import code_form
from keptrest.codecheck import code_fault
from keptrest.codegen import compiled
from keptrest.core import node_count
from keptrest.machine import is_machine_code, sound_fault
from keptrest.meaning import run
from keptrest.names import renumbered
from keptrest.runs import machine_run


def code_of(*rows, maps=(), entries=(), start=0):
    maps = {start: START, **dict(maps)}
    return (rows, tuple(maps.get(k) for k in range(len(rows))), entries, start)


class Case(unittest.TestCase):
    def fault(self, told, source, code):
        self.assertTrue(code_form(source, code), code)
        self.assertEqual(repr(code_fault(source, code)), repr(told), code)

    def word(self, told, source, *rows, maps=(), entries=(), point=0):
        self.fault(None if told is None else ("point", point, told), source, code_of(*rows, maps=maps, entries=entries))


class Examples(Case):
    """[62]."""

    def test_add(self):
        self.fault(None, ADD, ADD_CODE)
        self.fault(("point", 0, "empty"), ADD, with_row(ADD_CODE, 1, ("to", 1, 2)))
        self.fault(("point", 0, "words"), ADD, with_row(ADD_CODE, 4, ("prim", "add", (), (1, 0), 5)))
        self.fault(("point", 0, "words"), ADD, with_row(ADD_CODE, 2, ("load", 3, 3)))
        self.fault(("point", 0, "words"), ADD, with_row(ADD_CODE, 2, ("load", True, 3)))
        self.fault(("point", 0, "event"), ADD, with_row(ADD_CODE, 4, ("load", 3, 5)))
        self.fault(("point", 0, "event"), ADD, with_row(ADD_CODE, 0, ("load", 1, 1)))

    def test_pairs(self):
        self.fault(None, PAIRS, PAIRS_CODE)
        self.fault(("point", 0, "roots"), PAIRS, with_row(PAIRS_CODE, 10, ("make", ("pair",), (1,), (1, 2), (), 11)))
        self.fault(None, PAIRS, with_row(PAIRS_CODE, 10, ("make", ("pair",), (1,), (1, 2), (0, 1), 11)))
        self.fault(None, PAIRS, with_row(PAIRS_CODE, 12, ("make", ("pair",), (), (0, 1), (0, 1), 13)))

    def test_call_that_is_not_in_tail_place(self):
        source = let(0, fn(var(1), 1), prim("add", call(var(0), const(5)), const(1)))
        rows = (("make", ("fn",), (0,), (), (), 1), ("to", 0, 2), ("push", 6, (), 3), ("load", 5, 4), ("to", 1, 5), ("call", (1, 0), (0, 1)),
                ("to", 0, 7), ("load", 1, 8), ("to", 1, 9), ("prim", "add", (1,), (0, 1), 10), ("back",), ("from", 0, 10))
        maps = {6: ("give", (("args", (1,), 0, ()),)), 11: ("eval", (0, 0), (0,), ())}
        entries = (((0,), 1, False, (False, False), (("handed", 0),), 11),)
        self.word(None, source, *rows, maps=maps, entries=entries)
        self.word("frames", source, *rows[:2], ("load", 5, 3), *rows[3:], maps=maps, entries=entries)
        code = code_of(*rows, maps=maps, entries=entries)
        told = machine_run(code, (), (*WIDE, ()), 100)
        self.assertEqual((told[0], told[5]), (("end", "6"), 1))
        self.assertEqual(machine_run(code, (), (20000, 0, ()), 100)[0], ("trap", "deep", (1, 0)))
        self.assertEqual(machine_run(code, (), (20000, 1, ()), 100)[0], ("end", "6"))


class Words(Case):
    def test_empty_comes_ahead_of_event(self):
        self.word("empty", const(5), ("from", 0, 1), ("back",))
        self.word("empty", const(5), ("back",))
        self.word("empty", ADD, ("prim", "ask", (0,), (), 1), ("prim", "add", (), (0, 1), 2), ("back",))
        self.word("empty", prim("pair", const(1), const(2)), ("make", ("pair",), (), (0, 1), (), 1), ("back",))
        self.word("empty", prim("pair", const(1), const(2)), ("load", 1, 1), ("to", 0, 2), ("make", ("pair",), (), (0, 0), (1,), 3), ("back",))

    def test_event(self):
        two = prim("pair", prim("more"), prim("more"))
        self.word("event", two, ("prim", "more", (1,), (), 1), ("back",))
        ask = ("prim", "more", (0,), (), 1)
        self.word("event", two, ask, ("prim", "more", (0,), (), 2), ("back",))
        self.word("event", two, ask, ("back",))
        self.word("event", iff(prim("more"), const(1), const(2)), ("prim", "more", (0,), (), 1), ("back",))
        self.word("event", prim("give up", const(1)), ("stop", "count", ()))
        self.word(None, prim("give up", const(1)), ("stop", "given up", ()))
        self.word("event", prim("over", const(1), const(0)), ("stop", "kind", ()))
        self.word(None, prim("over", const(1), const(0)), ("stop", "zero", ()))
        self.word("event", prim("over", const(1), const(2)), ("stop", "zero", ()))

    def test_event_for_another_what_or_q(self):
        source = let(0, fn(const(1)), let(1, fn(const(1)), call(var(0))))
        rows = (("make", ("fn",), (0,), (), (), 1), ("to", 0, 2), ("make", ("fn",), (1, 0), (), (0,), 3), ("known", (1, 1), (0,), (0,)),
                ("load", 1, 5), ("back",), ("load", 1, 5))
        maps = {4: ("eval", (0, 0), (), ()), 6: ("eval", (1, 0, 0), (), ())}
        entries = (((0,), 0, False, (False,), (), 4), ((1, 0), 0, False, (False,), (), 6))
        self.word(None, source, *rows, maps=maps, entries=entries)
        self.word(None, source, *rows[:3], ("call", (1, 1), (0,)), *rows[4:], maps=maps, entries=entries)
        self.word("event", source, *rows[:3], ("known", (1, 1), (1, 0), (0,)), *rows[4:], maps=maps, entries=entries)
        self.word("event", source, ("make", ("fn",), (1, 0), (), (), 1), *rows[1:], maps=maps, entries=entries)
        self.word("event", source, *rows[:3], ("stop", "count", (1, 1)), *rows[4:], maps=maps, entries=entries)

    def test_event_for_another_number_of_words(self):
        source = let(0, fn(const(1), 1), call(var(0)))
        rows = (("make", ("fn",), (0,), (), (), 1), ("to", 0, 2), ("known", (1,), (0,), (0,)), ("load", 1, 4), ("back",))
        maps = {3: ("eval", (0, 0), (), ())}
        entries = (((0,), 1, False, (False, False), (), 3),)
        self.word("event", source, *rows, maps=maps, entries=entries)
        self.word(None, source, *rows[:2], ("call", (1,), (0,)), *rows[3:], maps=maps, entries=entries)
        self.word(None, source, *rows[:2], ("stop", "count", (1,)), *rows[3:], maps=maps, entries=entries)

    def test_words(self):
        self.word("words", const(5), ("load", 6, 1), ("back",))
        self.word("words", const(1), ("load", True, 1), ("back",))
        self.word("words", const(False), ("load", 0, 1), ("back",))
        self.word("words", const(()), ("load", False, 1), ("back",))
        self.word(None, const(True), ("load", True, 1), ("back",))
        self.word("words", const(("name", "a")), ("load", ("name", "b"), 1), ("back",))
        more = ("prim", "more", (0,), (), 1)
        source = iff(prim("more"), prim("show", const(1)), const(2))
        shows = (("load", 1, 3), ("to", 0, 4), ("prim", "show", (1,), (0,), 5), ("back",), ("load", 2, 5))
        self.word(None, source, more, ("test", 2, 6), *shows)
        self.word("event", source, more, ("test", 6, 2), *shows)

    def test_words_of_tests(self):
        source = prim("pair", prim("more"), iff(prim("more"), const(1), const(2)))
        rows = (("prim", "more", (0,), (), 1), ("to", 0, 2), ("prim", "more", (1, 0), (), 3), ("test", 4, 7), ("load", 1, 5), ("to", 1, 6),
                ("make", ("pair",), (), (0, 1), (), 8), ("load", 2, 5), ("back",))
        self.word(None, source, *rows)
        bent = rows[:3] + (("from", 0, 9),) + rows[4:] + (("test", 4, 7),)
        self.word("words", source, *bent)

    def test_roots(self):
        source = let(0, prim("ask"), let(1, prim("pair", const(1), const(2)), var(0)))
        rows = (("prim", "ask", (0,), (), 1), ("to", 0, 2), ("load", 1, 3), ("to", 1, 4), ("load", 2, 5), ("to", 2, 6),
                ("make", ("pair",), (1, 0), (1, 2), (0,), 7), ("from", 0, 8), ("back",))
        self.word(None, source, *rows)
        self.word("roots", source, *rows[:6], ("make", ("pair",), (1, 0), (1, 2), (), 7), *rows[7:])
        later = let(0, prim("ask"), let(1, prim("pair", const(1), const(2)), const(3)))
        self.word("roots", later, *rows[:7], ("load", 3, 8), ("back",))
        self.word(None, later, *rows[:6], ("make", ("pair",), (1, 0), (1, 2), (), 7), ("load", 3, 8), ("back",))

    def test_frames(self):
        source = prim("add", call(const(1)), prim("add", const(2), call(const(3))))
        self.word(None, source, ("load", 1, 1), ("to", 0, 2), ("call", (0,), (0,)))
        source = fn(prim("add", call(var(0)), const(1)), 0)
        chart = ("eval", (0,), (0,), ())
        frame = ("give", (("args", (0,), 0, ()),))
        rest = (("to", 0, 5), ("load", 1, 6), ("to", 1, 7), ("prim", "add", (0,), (0, 1), 8), ("back",))
        start = (("make", ("fn",), (), (), (), 1), ("back",))
        entries = (((), 1, False, (False, False), (("handed", 0),), 2),)
        good = start + (("push", 4, (), 3), ("call", (0, 0), (0,))) + rest
        maps = {2: chart, 4: frame}
        self.word(None, source, *good, maps=maps, entries=entries)
        bad = start + (("from", 0, 3), ("call", (0, 0), (0,))) + rest
        self.word("frames", source, *bad, maps=maps, entries=entries, point=2)
        twice = start + (("push", 4, (), 9), ("call", (0, 0), (0,))) + rest + (("push", 4, (), 3),)
        self.word("frames", source, *twice, maps=maps, entries=entries, point=2)

    def test_frames_of_keep_wind_and_back(self):
        for last, source in ((("keep", (0, 0), 0), fn(prim("add", prim("keep", var(0)), const(1)), 0)),
                             (("wind", (0, 0), (0, 0, 0)), fn(prim("add", prim("wind", var(0), var(0), var(0)), const(1)), 0))):
            rows = (("make", ("fn",), (), (), (), 1), ("back",), ("push", 4, (), 3), last, ("to", 0, 5), ("load", 1, 6), ("to", 1, 7),
                    ("prim", "add", (0,), (0, 1), 1))
            maps = {2: ("eval", (0,), (0,), ()), 4: ("give", (("args", (0,), 0, ()),))}
            entries = (((), 1, False, (False, False), (("handed", 0),), 2),)
            self.word(None, source, *rows, maps=maps, entries=entries)
            self.word("frames", source, *rows[:2], ("from", 0, 3), *rows[3:], maps=maps, entries=entries, point=2)
        source = prim("show", const(1))
        rows = (("load", 1, 1), ("to", 0, 2), ("prim", "show", (), (0,), 3), ("push", 5, (), 4), ("back",), ("back",))
        code = code_of(*rows, maps={5: ("give", (("args", (), 0, ()),))})
        self.fault(("point", 0, "frames"), source, code)

    def test_two_faults_in_one_row(self):
        source = fn(prim("add", call(var(0), const(1)), const(1)), 0)
        maps = {2: ("eval", (0,), (0,), ()), 6: ("give", (("args", (0,), 0, ()),))}
        entries = (((), 1, False, (False, False), (("handed", 0),), 2),)
        start = (("make", ("fn",), (), (), (), 1), ("back",))
        rest = (("to", 0, 7), ("load", 1, 8), ("to", 1, 9), ("prim", "add", (0,), (0, 1), 1))

        def rows(constant, pushes):
            push = ("push", 6, (), 5) if pushes else ("load", 0, 5)
            return start + (("load", constant, 3), ("to", 1, 4), push, ("call", (0, 0), (0, 1))) + rest

        self.word(None, source, *rows(1, True), maps=maps, entries=entries)
        self.word("words", source, *rows(2, True), maps=maps, entries=entries, point=2)
        self.word("frames", source, *rows(1, False), maps=maps, entries=entries, point=2)
        self.word("words", source, *rows(2, False), maps=maps, entries=entries, point=2)

    def test_map(self):
        self.word(None, const(5), ("load", 5, 1), ("back",), maps={1: ("give", ())})
        self.word("map", const(5), ("load", 6, 1), ("back",), maps={1: ("give", ())})
        self.word("map", const(1), ("load", True, 1), ("back",), maps={1: ("give", ())})
        chart = ("give", (("args", (), 0, ()),))
        rest = (("to", 0, 2), ("load", 2, 3), ("to", 1, 4), ("prim", "add", (), (0, 1), 5), ("back",))
        ask = ("prim", "ask", (0,), (), 1)
        self.word(None, ADD, ask, *rest, maps={1: chart})
        self.word("map", ADD, ask, *rest, maps={1: ("give", ())})
        self.word("map", ADD, ask, *rest, maps={1: ("eval", (1,), (), (("args", (), 1, (0,)),))})
        later = ("eval", (1,), (), (("args", (), 1, (0,)),))
        self.word(None, ADD, ask, *rest, maps={2: later})
        self.word("map", ADD, ask, ("to", 1, 2), *rest[1:], maps={2: later})
        self.word("map", ADD, ask, ("to", 0, 2), ("load", 3, 3), *rest[2:], maps={3: ("give", (("args", (), 1, (0,)),))})

    def test_sources_that_are_constants(self):
        source = prim("add", const(2), prim("ask"))
        maps = {1: ("eval", (1,), (), (("args", (), 1, (("const", 2),)),))}
        rows = (("load", 0, 1), ("prim", "ask", (1,), (), 2), ("to", 1, 3), ("load", 2, 4), ("to", 0, 5), ("prim", "add", (), (0, 1), 6), ("back",))
        self.word(None, source, *rows, maps=maps)
        self.word("map", source, *rows, maps={1: ("eval", (1,), (), (("args", (), 1, (("const", 3),)),))})
        self.word("map", source, *rows, maps={1: ("eval", (1,), (), (("args", (), 1, (("const", True),)),))})

    def test_pushed_frames_at_named_points(self):
        source = prim("add", const(2), call(fn(const(3))))
        entries = (((1, 0), 0, False, (False,), (), 9),)
        tail = (("make", ("fn",), (1, 0), (), (), 4), ("to", 0, 5), ("known", (1,), (1, 0), (0,)),
                ("to", 1, 7), ("prim", "add", (), (0, 1), 8), ("back",), ("load", 3, 8))
        maps = {3: ("eval", (1,), (), ()), 6: ("give", (("args", (), 1, (0,)),)), 9: ("eval", (1, 0, 0), (), ())}
        self.word(None, source, ("load", 2, 1), ("to", 7, 2), ("push", 6, (7,), 3), *tail, maps=maps, entries=entries)
        self.word("map", source, ("load", 2, 1), ("to", 7, 2), ("from", 7, 3), *tail, maps=maps, entries=entries)
        self.word("map", source, ("load", 1, 1), ("to", 7, 2), ("push", 6, (7,), 3), *tail, maps=maps, entries=entries)
        self.word(None, source, ("load", 2, 1), ("to", 7, 2), ("push", 6, (7,), 10), *tail, ("go", 3, ()), maps=maps, entries=entries)

    def test_fault_on_the_false_side_alone(self):
        source = iff(prim("more"), const(1), const(2))
        rows = (("prim", "more", (0,), (), 1), ("test", 2, 3), ("load", 1, 4), ("load", 2, 4), ("back",))
        self.word(None, source, *rows)
        self.word("words", source, *rows[:3], ("load", 3, 4), ("back",))
        self.word("empty", source, *rows[:3], ("from", 0, 4), ("back",))
        self.word("words", source, *rows[:2], ("load", 3, 4), ("from", 0, 4), ("back",))

    def test_sides_that_a_constant_rules_out_are_not_looked_at(self):
        source = iff(const(True), const(1), const(2))
        self.word(None, source, ("load", True, 1), ("test", 2, 3), ("load", 1, 4), ("from", 9, 4), ("back",))

    def test_the_least_point_is_told(self):
        chart = ("give", (("args", (), 0, ()),))
        rows = (("prim", "ask", (0,), (), 1), ("to", 0, 2), ("load", 7, 3), ("to", 1, 4), ("prim", "add", (), (0, 1), 5), ("back",))
        self.word("words", ADD, *rows, maps={1: chart}, point=1)
        self.word("map", ADD, *rows, maps={1: ("give", ()), 5: chart}, point=0)
        rows = rows[:2] + (("load", 2, 3),) + rows[3:]
        self.word("event", ADD, *rows, ("back",), maps={6: chart}, point=6)


class Turns(Case):
    def test_rings_of_idle_leads(self):
        self.word("turn", const(5), ("go", 0, ()))
        self.word("turn", const(5), ("load", 5, 0))
        rows = (("load", 5, 1), ("to", 0, 2), ("from", 0, 1))
        self.word("turn", const(5), *rows, maps={1: ("give", ())}, point=1)
        rows = (("load", 5, 1), ("to", 0, 2), ("from", 0, 3), ("to", 0, 1))
        maps = {1: ("give", ()), 3: ("give", ())}
        self.word("turn", const(5), *rows, maps=maps, point=1)
        self.word(None, const(5), *rows[:3], ("back",), maps=maps)

    def test_the_least_point_on_a_ring(self):
        rows = (("load", 5, 4), ("to", 0, 2), ("from", 0, 3), ("to", 0, 1), ("to", 0, 5), ("from", 0, 1))
        maps = {1: ("give", ()), 3: ("give", ()), 4: ("give", ())}
        self.word("turn", const(5), *rows, maps=maps, point=1)
        rows = (("load", 5, 1), ("to", 0, 2), ("from", 0, 4), ("back",), ("to", 0, 5), ("from", 0, 4))
        maps = {1: ("give", ()), 4: ("give", ())}
        self.word("turn", const(5), *rows, maps=maps, point=4)

    def test_other_faults_come_first(self):
        self.word("empty", const(5), ("load", 5, 0), ("from", 0, 2), ("back",), maps={1: ("give", ())}, point=1)

    def test_quiet_steps_are_no_idle_leads(self):
        source = seq(const(1), const(2))
        chart = ("give", (("seq", (), 0, ()),))
        self.word(None, source, ("load", 1, 1), ("load", 2, 2), ("back",), maps={1: chart, 2: ("give", ())})

    def test_pushing_the_newest_frame_and_giving_it_back(self):
        """Such a code is let by, but not steady."""
        source = prim("show", prim("ask"))
        frame = ("args", (), 0, ())
        rows = (("prim", "ask", (0,), (), 1), ("push", 2, (), 4), ("to", 0, 3), ("prim", "show", (), (0,), 4), ("back",))
        maps = {1: ("give", (frame,)), 2: ("give", (frame,)), 4: ("give", ())}
        self.word(None, source, *rows, maps=maps)
        code = code_of(*rows, maps=maps)
        self.assertFalse(is_steady(source, code))
        self.assertTrue(is_steady(source, compiled(source)))


def is_steady(source, code):
    """[60], from the idle leads of all walks."""
    from keptrest.codecheck import Walks
    walks = Walks(source, code)
    named = [point for point, chart in enumerate(code[1]) if chart is not None]
    for point in named:
        if walks.walk_fault(point) is not None:
            raise AssertionError(point)
    own = [point for point in named if code[1][point][0] == "give" and code[1][point][1]]
    reached = set(own)
    while True:
        more = {t for k, t in walks.leads if k in reached} - reached
        if not more:
            break
        reached |= more
    return not any(code[1][t] == ("give", ()) for k, t in walks.leads if k in reached)


class Entries(Case):
    def test_entries(self):
        source = let(0, prim("ask"), fn(seq(put(2, var(1)), prim("pair", var(0), var(2))), 1, 2, rest=3))
        code = compiled(source)
        entry = code[2][0]
        self.assertEqual(entry[:5], ((1,), 2, True, (False, True, False), (("own", 0), ("handed", 0), ("handed", 1))))
        self.fault(None, source, code)
        for at, value in ((2, False), (3, (True, True, False)), (3, (False, False, False)), (3, (False, True, True)),
                          (4, (("own", 0), ("handed", 1), ("handed", 0))), (4, (("own", 0), ("handed", 0), ("handed", 2))),
                          (4, (("handed", 0), ("handed", 0), ("handed", 1))), (4, (("own", 0), ("own", 0), ("handed", 1)))):
            self.fault(("entry", (1,)), source, with_entry(code, 0, changed(entry, at, value)))
        self.fault(("entry", (1,)), source, with_entry(code, 0, ((1,), 3, True, (False, True, False, False), *entry[4:])))
        self.fault(("entry", (1,)), source, with_entry(code, 0, ((1,), 1, True, (False, True), (("own", 0), ("handed", 0), ("handed", 1)), entry[5])))

    def test_rest(self):
        source = fn(prim("pair", var(0), var(1)), 0, rest=1)
        code = compiled(source)
        self.assertEqual(code[2][0][:5], ((), 1, True, (False, False), (("handed", 0), ("handed", 1))))
        bent = (*code[2][0][:4], (("handed", 1), ("handed", 0)), code[2][0][5])
        self.fault(("entry", ()), source, with_entry(code, 0, bent))

    def test_the_least_one_of_two_ahead_of_points(self):
        source = prim("pair", fn(var(0), 0), fn(var(1), 1))
        code = with_row(compiled(source), 0, ("load", 1, 1))
        self.fault(("point", 0, "event"), source, code)
        bad = [(*entry[:1], 2, *entry[2:3], (False, False, False), *entry[4:]) for entry in code[2]]
        self.fault(("entry", (1,)), source, with_entry(code, 1, bad[1]))
        self.fault(("entry", (0,)), source, with_entry(with_entry(code, 1, bad[1]), 0, bad[0]))


class Facts(unittest.TestCase):
    """[60]: a code that is let by and steady runs like the meaning, however it came about."""

    def bent_codes(self, source, code, many):
        """Codes with one thing changed."""
        rows, maps, entries, start = code
        for _ in range(many):
            point = source.randrange(len(rows))
            row = rows[point]
            kind = source.randrange(5)
            if kind == 0:
                other = source.choice(rows)
                yield with_row(code, point, other)
            elif kind == 1 and maps[point] is not None:
                yield with_map(code, point, source.choice(maps))
            elif kind == 2 and entries:
                at = source.randrange(len(entries))
                entry = entries[at]
                yield with_entry(code, at, changed(entry, 5, source.choice(entries)[5]))
            else:
                at = source.randrange(1, len(row)) if len(row) > 1 else None
                if at is not None:
                    part = row[at]
                    if type(part) is int:
                        part = source.choice((part + 1, part - 1, source.randrange(len(rows)), 0, 1))
                    elif type(part) is tuple and all(type(k) is int for k in part):
                        part = source.choice((part[:-1], part[::-1], part + (0,), tuple(sorted(set(part + (source.randrange(4),))))))
                    else:
                        part = source.choice((True, 1, 0, "add", "less", ()))
                    yield with_row(code, point, changed(row, at, part))

    def test_bent_codes(self):
        source = random.Random(5)
        made = plain_meaning.Programs(31)
        told = {"form": 0, "fault": 0, "let by": 0}
        words = set()
        while told["let by"] < 600:
            term = renumbered(made.program(source.randrange(2, 5)))
            if not 3 < node_count(term) < 60:
                continue
            code = compiled(term)
            for bent in self.bent_codes(source, code, 25):
                if not code_form(term, bent):
                    told["form"] += 1
                    continue
                fault = code_fault(term, bent)
                if fault is not None:
                    told["fault"] += 1
                    words.add(fault[2] if fault[0] == "point" else "entry")
                elif is_steady(term, bent):
                    told["let by"] += 1
                    self.assertTrue(is_machine_code(bent))
                    self.runs_alike(term, bent)
        self.assertLessEqual({"empty", "event", "words", "map"}, words)
        self.assertGreater(min(told.values()), 100)

    def runs_alike(self, term, code):
        for room, deep in ((20000, 20000), (8, 20000), (20000, 2)):
            ending, output, count, _ = run(term, (4, 5), (room, deep), 2000)
            other = machine_run(code, (4, 5), (room, deep, (1, 3)), 20000)
            if ending != ("open",):
                self.assertEqual(other[:2], (ending, output))

    def test_compiled_codes_are_steady(self):
        for name, term, _ in programs():
            self.assertTrue(is_steady(term, compiled(term)), name)
            self.assertIsNone(sound_fault(compiled(term)), name)

    def test_example_with_source_text(self):
        term = program("(define (f a) (if a (f (second a)) #no)) (f (pair 1 (pair 2 #no)))")
        self.assertIsNone(code_fault(term, compiled(term)))


if __name__ == "__main__":
    unittest.main()
