"""[105] to [111]: folding, placing, known functions, pruning, sharing, and passes in turn."""

import os
import random
import sys
import unittest

sys.path.insert(0, os.path.dirname(os.path.abspath(__file__)))

import plain_meaning
import plain_passes
from odd_codes import Odd, moved_code
from samples import call, const, fn, iff, let, prim, programs, put, seq, var
from test_codecheck import is_steady

from keptrest.code import code_form, named_points, window_size
from keptrest.codecheck import code_fault
from keptrest.codegen import compiled
from keptrest.core import node_count
from keptrest.errors import TooMany, UnknownName
from keptrest.folding import folded, idle_points
from keptrest.known import knowable_points, known
from keptrest.machine import sound_fault
from keptrest.meaning import run
from keptrest.names import renumbered
from keptrest.passes import passed_through
from keptrest.passing import turned
from keptrest.placing import placed, waste_points
from keptrest.runs import machine_run, making_words
from keptrest.sharing import alike_points, pruned, shared, used_points

START = ("eval", (), (), ())
GIVE = ("give", ())
PASSES = (folded, placed, known, pruned, shared)
NAMES = ("folded", "placed", "known", "pruned", "shared")


def code_of(*rows, maps=(), entries=(), start=0):
    charts = {start: START, **dict(maps)}
    return (rows, tuple(charts.get(k) for k in range(len(rows))), entries, start)


def greatest_window(code):
    return max(window_size(code, point) for point in named_points(code))


class Case(unittest.TestCase):
    def same(self, one, other):
        self.assertEqual(repr(one), repr(other))

    def let_by(self, program, code):
        self.assertTrue(code_form(program, code), code)
        self.assertIsNone(code_fault(program, code), code)

    def keeps_promise(self, program, code, passed, name):
        """The promise of the pass of a name."""
        visits = plain_passes.visits(program, passed)
        if name == "folded":
            self.assertEqual(visits["idle"], ())
        elif name == "known":
            self.assertEqual(visits["knowable"], ())
        elif name == "placed":
            self.assertEqual(plain_passes.waste_points(program, passed), ())
        elif name == "pruned":
            used = plain_passes.in_use(code)
            self.assertEqual(plain_passes.in_use(passed), tuple(range(len(used))))
            plain = [plain_passes.bare(code[0][point]) + repr(code[1][point]) for point in used]
            self.assertEqual(sorted(plain), sorted(map(lambda row, chart: plain_passes.bare(row) + repr(chart), *passed[:2])))
        else:
            self.same(passed, plain_passes.shared(code))

    def check_passes(self, program, code):
        """All that is promised of the passes of one code; the passed codes."""
        before = repr(code)
        steady, sound = is_steady(program, code), sound_fault(code) is None
        made = []
        for name, do_pass in zip(NAMES, PASSES):
            passed = do_pass(program, code)
            self.let_by(program, passed)
            self.assertLessEqual(greatest_window(passed), greatest_window(code))
            self.assertTrue(is_steady(program, passed) or not steady)
            self.assertTrue(sound_fault(passed) is None or not sound)
            self.keeps_promise(program, code, passed, name)
            made.append(passed)
        self.assertEqual(repr(code), before)
        return made

    def check_points(self, program, code):
        visits = plain_passes.visits(program, code)
        self.assertEqual(idle_points(program, code), visits["idle"])
        self.assertEqual(knowable_points(program, code), visits["knowable"])
        self.assertEqual(waste_points(program, code), plain_passes.waste_points(program, code))
        self.assertEqual(used_points(code), plain_passes.in_use(code))
        self.assertEqual(alike_points(code), plain_passes.alike_points(code))
        return visits

    def check_runs(self, program, codes, inputs):
        """All codes run as the meaning does, with limits just at, below and above what is needed."""
        wide = (20000, 20000)
        ending, output, _, _ = run(program, inputs, wide, 3000)
        if ending == ("open",):
            return
        needs = [words + size for _, words, size in making_words(codes[0], inputs, (*wide, ()), 20000)]
        room = max(needs, default=0)
        deep = machine_run(codes[0], inputs, (*wide, ()), 20000)[5]
        for limits in (wide, (room, deep), (max(room - 1, 0), deep), (room + 1, deep), (room, max(deep - 1, 0))):
            told = run(program, inputs, limits, 3000)[:2]
            for code in codes:
                for schedule in ((), (0, 2), tuple(range(40))):
                    got = machine_run(code, inputs, (*limits, schedule), 30000)
                    self.same(got[:2], told)


class Folding(Case):
    """[106]."""

    SUM = prim("show", prim("add", const(5), const(2)))
    ROWS = (("load", 5, 1), ("to", 0, 2), ("load", 2, 3), ("to", 1, 4), ("prim", "add", (0,), (0, 1), 5), ("to", 2, 6),
            ("prim", "show", (), (2,), 7), ("back",))

    def test_example(self):
        code = code_of(*self.ROWS)
        self.let_by(self.SUM, code)
        self.assertEqual(idle_points(self.SUM, code), (4,))
        passed = folded(self.SUM, code)
        self.assertEqual(idle_points(self.SUM, passed), ())
        self.assertIn(("load", 7, 5), passed[0])
        self.check_passes(self.SUM, code)

    def test_truths_stay_truths(self):
        for one, other, told in ((1, True, False), (True, True, True), (0, 0, True)):
            program = prim("show", prim("same", const(one), const(other)))
            passed = folded(program, compiled(program))
            loads = [row[1] for row in passed[0] if row[0] == "load"]
            self.same(loads[-1], told)
            self.same(passed, passed_through(program, compiled(program), ("folded",)))

    def test_tests_of_constants(self):
        for c in (True, False, 0, 1, (), ("name", "a")):
            program = iff(const(c), prim("show", const(1)), prim("show", const(2)))
            code = compiled(program)
            tests = tuple(k for k, row in enumerate(code[0]) if row[0] == "test")
            self.assertEqual(idle_points(program, code), tests)
            passed = folded(program, code)
            self.assertFalse([row for row in passed[0] if row[0] == "test"])
            self.assertEqual([row[1] for row in passed[0] if row[0] == "load"][-1], 2 if c is False else 1)

    def test_code_behind_both_sides(self):
        """The side that is ruled out may read what holds nothing; it is not idle there."""
        program = const(1)
        code = code_of(("load", True, 1), ("test", 2, 3), ("load", 1, 5), ("from", 9, 4), ("test", 5, 5), ("back",))
        self.let_by(program, code)
        self.assertEqual(idle_points(program, code), (1,))
        self.assertEqual(waste_points(program, code), ())
        self.assertEqual(sound_fault(code), (0, "start"))
        passed = folded(program, code)
        self.same(passed[0][-2:], (("load", 1, 2), ("back",)))
        self.assertIsNone(sound_fault(passed))

    def test_prims_that_trap_are_not_idle(self):
        for term, word in ((prim("over", const(1), const(0)), "zero"), (prim("add", const(True), const(1)), "kind"),
                           (prim("times", const(10 ** 29), const(10)), "range")):
            code = compiled(term)
            self.assertEqual(idle_points(term, code), ())
            for do_pass in PASSES:
                self.assertEqual(machine_run(do_pass(term, code), (), (9, 9, ()), 50)[0], ("trap", word, ()))

    def test_prims_without_constants_are_not_idle(self):
        for term in (prim("ask"), prim("more"), prim("show", const(1)), prim("pair", const(1), const(2)),
                     prim("add", prim("ask"), const(1))):
            self.assertEqual(idle_points(term, compiled(term)), ())

    def test_one_walk_makes_it_idle_and_another_one_does_not(self):
        """A test to which two sides come: VALUE is a constant on one of them."""
        program = iff(iff(prim("ask"), const(True), prim("more")), prim("show", const(1)), prim("show", const(2)))
        code = code_of(("prim", "ask", (0, 0), (), 1), ("test", 2, 3), ("load", True, 4), ("prim", "more", (0, 2), (), 4),
                       ("test", 5, 6), ("load", 1, 7), ("load", 2, 9), ("to", 0, 8), ("prim", "show", (1,), (0,), 11),
                       ("to", 0, 10), ("prim", "show", (2,), (0,), 11), ("back",))
        self.let_by(program, code)
        self.assertEqual(idle_points(program, code), (4,))
        passed = folded(program, code)
        self.assertEqual(len([row for row in passed[0] if row[0] == "test"]), 2)
        made = self.check_passes(program, code)
        for inputs in ((1,), (False,), (False, 2)):
            self.check_runs(program, [code] + made, inputs)


class Placing(Case):
    """[107]."""

    def test_example(self):
        code = code_of(("load", 1, 1), ("load", 2, 2), ("to", 0, 3), ("back",))
        program = const(2)
        self.let_by(program, code)
        self.assertEqual(waste_points(program, code), (0, 2))
        passed = placed(program, code)
        self.same(passed, ((("load", 2, 1), ("back",)), (START, None), (), 0))

    def test_rows_that_become_waste(self):
        code = code_of(("load", 1, 1), ("to", 3, 2), ("from", 3, 3), ("to", 2, 4), ("load", 2, 5), ("back",))
        self.let_by(const(2), code)
        self.assertEqual(waste_points(const(2), code), (3,))
        self.assertEqual(placed(const(2), code)[0], (("load", 2, 1), ("back",)))

    def test_given_anew_and_makes(self):
        program = prim("pair", const(1), const(2))
        rows = (("load", 9, 1), ("to", 0, 2), ("to", 7, 3), ("load", 1, 4), ("to", 0, 5), ("load", 2, 6), ("to", 1, 7),
                ("make", ("pair",), (), (0, 1), (), 8), ("back",))
        code = code_of(*rows)
        self.let_by(program, code)
        self.assertEqual(waste_points(program, code), (1, 2))
        live = code_of(*rows[:7], ("make", ("pair",), (), (0, 1), (7,), 8), rows[8])
        self.let_by(program, live)
        self.assertEqual(waste_points(program, live), (1,))
        self.assertEqual(placed(program, live)[0][-2:], (("make", ("pair",), (), (0, 1), (7,), len(placed(program, live)[0]) - 1), ("back",)))

    def test_ways_that_end_at_a_go(self):
        """The t of a go brings its own window, but not its VALUE."""
        program = let(0, prim("ask"), seq(prim("more"), var(0)))
        code = code_of(("prim", "ask", (0,), (), 1), ("to", 0, 2), ("to", 3, 3), ("load", 5, 4), ("go", 5, (0,)),
                       ("prim", "more", (1, 0), (), 6), ("from", 0, 7), ("back",), maps={5: ("eval", (1,), (0,), ())})
        self.let_by(program, code)
        self.assertEqual(waste_points(program, code), (2, 3))
        self.assertEqual(len(placed(program, code)[0]), 6)
        giving = code_of(("load", 5, 1), ("to", 0, 2), ("go", 3, ()), ("back",), maps={3: GIVE})
        self.let_by(const(5), giving)
        self.assertEqual(waste_points(const(5), giving), (1,))

    def test_ways_that_end_at_named_points(self):
        program = let(0, prim("ask"), seq(prim("more"), var(0)))
        rows = (("prim", "ask", (0,), (), 1), ("to", 0, 2), ("to", 1, 3), ("prim", "more", (1, 0), (), 4), ("from", 0, 5), ("back",))
        named = code_of(*rows, maps={3: ("eval", (1,), (0,), ())})
        self.let_by(program, named)
        self.assertEqual(waste_points(program, named), (2,))
        other = code_of(*rows[:4], ("from", 1, 5), rows[5], maps={3: ("eval", (1,), (1,), ())})
        self.let_by(program, other)
        self.assertEqual(waste_points(program, other), (1,))
        value = code_of(("load", 5, 1), ("load", 6, 2), ("back",), maps={2: GIVE})
        self.assertEqual(waste_points(const(6), value), (0,))

    def test_one_way_reads_it_and_another_one_does_not(self):
        program = iff(prim("more"), const(1), const(2))
        code = code_of(("prim", "more", (0,), (), 1), ("to", 4, 2), ("test", 3, 5), ("from", 4, 4), ("load", 1, 6), ("load", 2, 6), ("back",))
        self.let_by(program, code)
        self.assertEqual(waste_points(program, code), (3,))
        self.assertEqual(waste_points(program, code_of(("prim", "more", (0,), (), 1), ("to", 4, 2), ("test", 3, 5), ("load", 3, 4),
                                                       ("load", 1, 6), ("load", 2, 6), ("back",))), (1, 3))

    def test_a_side_that_no_walk_comes_to_counts_as_a_way(self):
        code = code_of(("load", 1, 1), ("to", 4, 2), ("load", True, 3), ("test", 4, 5), ("load", 2, 6), ("from", 4, 6), ("back",))
        self.let_by(const(2), code)
        self.assertEqual(waste_points(const(2), code), ())
        self.assertEqual(plain_passes.waste_points(const(2), placed(const(2), code)), ())

    def test_rows_of_named_points(self):
        """A named point stays, whatever its row: the row behind it moves up, or it goes to the point behind it."""
        program = let(0, prim("ask"), seq(prim("more"), var(0)))
        at = ("eval", (1,), (2,), ())
        code = code_of(("prim", "ask", (0,), (), 1), ("to", 2, 2), ("load", 5, 3), ("to", 0, 4), ("prim", "more", (1, 0), (), 5),
                       ("from", 2, 6), ("back",), maps={2: at, 4: at})
        self.assertEqual(code_fault(program, code), None)
        self.assertEqual(waste_points(program, code), (3,))
        passed = placed(program, code)
        self.assertEqual(plain_passes.waste_points(program, passed), ())
        going = [row for row in passed[0] if row[0] == "go"]
        self.assertEqual([row[2] for row in going], [(2, 2, 2)])
        self.check_runs(program, self.check_passes(program, code), (4, 5))
        more = code_of(("prim", "ask", (0,), (), 1), ("to", 2, 2), ("load", 5, 3), ("prim", "more", (1, 0), (), 4), ("from", 2, 5),
                       ("back",), maps={2: at})
        self.assertEqual(waste_points(program, more), (2,))
        self.assertEqual(len(placed(program, more)[0]), 5)
        self.check_passes(program, more)

    def test_what_frames_hold_stays_live(self):
        """[105]: the ROOTS are those of the meaning, even if nobody reads a slot any more."""
        program = let(0, prim("ask"), seq(prim("pair", const(1), const(2)), seq(var(0), const(3))))
        code = compiled(program)
        for do_pass in PASSES:
            makes = [row for row in do_pass(program, code)[0] if row[0] == "make"]
            self.assertEqual([len(row[4]) for row in makes], [1])


class Known(Case):
    """[108]."""

    def test_sure_functions(self):
        program = let(0, fn(var(1), 1), seq(call(var(0), const(1)), seq(call(var(0)), call(const(5), const(1)))))
        code = compiled(program)
        calls = tuple(k for k, row in enumerate(code[0]) if row[0] == "call")
        self.assertEqual(len(calls), 3)
        self.assertEqual(knowable_points(program, code), calls)
        passed = known(program, code)
        self.assertEqual(knowable_points(program, passed), ())
        rows = [row for row in passed[0] if row[0] in ("call", "known", "stop")]
        self.assertEqual(sorted(rows)[1:], [("stop", "count", (1, 1, 0)), ("stop", "no function", (1, 1, 1))])
        self.assertEqual(sorted(rows)[0][:3], ("known", (1, 0), (0,)))
        self.check_passes(program, code)
        self.check_runs(program, [code, passed], ())

    def test_functions_that_are_not_sure(self):
        boxed = let(0, fn(var(1), 1), seq(put(0, var(0)), call(var(0), const(1))))
        handed = call(fn(call(var(0), const(1)), 0), const(2))
        for program, many in ((boxed, 0), (handed, 1)):
            code = compiled(program)
            self.assertEqual(len(knowable_points(program, code)), many)
            self.assertEqual(knowable_points(program, known(program, code)), ())

    def test_one_walk_knows_it_and_another_one_does_not(self):
        """The same row, come to with a made function and with something else."""
        program = let(0, prim("more"), call(iff(var(0), fn(const(3)), var(0))))
        code = code_of(("prim", "more", (0,), (), 1), ("to", 0, 2), ("test", 3, 4), ("make", ("fn",), (1, 0, 1), (), (), 5), ("from", 0, 5),
                       ("to", 1, 6), ("call", (1,), (1,)), ("load", 3, 8), ("back",), maps={7: ("eval", (1, 0, 1, 0), (), ())},
                       entries=(((1, 0, 1), 0, False, (False,), (), 7),))
        self.let_by(program, code)
        self.assertEqual(knowable_points(program, code), (6,))
        passed = known(program, code)
        self.assertEqual(sorted(row[0] for row in passed[0] if row[0] in ("call", "known")), ["call", "known"])
        made = self.check_passes(program, code)
        for inputs in ((), (1,)):
            self.check_runs(program, [code] + made, inputs)


class Pruning(Case):
    """[109]."""

    def test_points_in_use(self):
        code = code_of(("load", 1, 3), ("load", 2, 1), ("load", 3, 2), ("back",), ("test", 5, 4), ("back",))
        self.assertEqual(used_points(code), (0, 3))
        self.same(pruned(const(1), code), code_of(("load", 1, 1), ("back",)))

    def test_each_sort_of_point(self):
        program = seq(call(fn(const(1))), iff(prim("more"), const(1), const(2)))
        code = compiled(program)
        self.assertEqual(used_points(code), tuple(range(len(code[0]))))
        odd = (code[0] + (("go", 0, ()), ("load", True, 0)), code[1] + (None, GIVE), *code[2:])
        self.same(pruned(program, odd), code)
        entry = (code[0], code[1], code[2], code[3])
        self.assertIn(code[2][0][5], used_points(entry))


class Sharing(Case):
    """[110]."""

    def test_example(self):
        rows = (("prim", "more", (0,), (), 1), ("test", 2, 5), ("load", 1, 3), ("back",), ("back",), ("load", 1, 4))
        program = iff(prim("more"), const(1), const(1))
        code = code_of(*rows)
        self.let_by(program, code)
        self.assertEqual(alike_points(code), ((0,), (1,), (2, 5), (3, 4)))
        self.same(shared(program, code), code_of(("prim", "more", (0,), (), 1), ("test", 2, 2), ("load", 1, 3), ("back",)))

    def test_truths_and_numbers_are_not_alike(self):
        rows = (("load", 1, 6), ("load", True, 6), ("load", 0, 6), ("load", False, 6), ("load", 1, 6), ("load", (), 6), ("back",))
        self.assertEqual(alike_points(code_of(*rows, maps={4: None})), ((0,), (1,), (2,), (3,), (4,), (5,), (6,)))
        charts = {1: ("eval", (0,), (("const", 1),), ()), 2: ("eval", (0,), (("const", True),), ()), 3: ("eval", (0,), (("const", 1),), ())}
        same = (("back",),) * 5
        self.assertEqual(alike_points(code_of(*same, maps=charts)), ((0,), (1, 3), (2,), (4,)))

    def test_unlike_maps(self):
        code = code_of(("load", 1, 1), ("back",), ("back",), ("back",), ("back",), maps={1: GIVE, 3: GIVE})
        self.assertEqual(alike_points(code), ((0,), (1, 3), (2, 4)))

    def test_rings(self):
        """Points that are alike only as a ring, and rings of unlike lengths."""
        rows = (("load", 1, 1), ("load", 1, 2), ("load", 1, 0), ("load", 1, 3), ("load", 2, 5), ("load", 1, 4))
        maps = {k: GIVE for k in range(1, 6)}
        self.assertEqual(alike_points(code_of(*rows, maps=maps)), ((0,), (1,), (2,), (3,), (4,), (5,)))
        all_named = (rows, (GIVE,) * 6, (), 0)
        self.assertEqual(alike_points(all_named), ((0, 1, 2, 3), (4,), (5,)))
        self.same(shared(None, all_named), ((("load", 1, 0),), (GIVE,), (), 0))

    def test_numbers_of_classes(self):
        """START first, then the points of rows as they stand in them: YES, NO; r ahead of NEXT."""
        rows = (("load", 9, 0), ("push", 4, (), 2), ("test", 5, 0), ("load", 8, 3), ("load", 7, 3), ("load", 6, 5))
        code = (rows, (GIVE,) * 6, (), 1)
        told = shared(None, code)
        self.same(told[0], (("push", 1, (), 2), ("load", 7, 3), ("test", 4, 5), ("load", 8, 3), ("load", 6, 4), ("load", 9, 5)))
        self.assertEqual(told[3], 0)

    def test_entries_behind(self):
        """What only entries come to is met behind all that START leads to, entry by entry."""
        rows = (("back",), ("load", 1, 3), ("load", 2, 0), ("load", 3, 2), ("load", 5, 5))
        entries = (((0,), 0, False, (False,), (), 4), ((1,), 0, False, (False,), (), 0), ((2,), 0, False, (False,), (), 1))
        code = (rows[:4] + (("load", 5, 4),), (GIVE,) * 5, entries, 2)
        told = shared(None, code)
        self.same(told[0], (("load", 2, 1), ("back",), ("load", 5, 2), ("load", 1, 4), ("load", 3, 0)))
        self.assertEqual([entry[5] for entry in told[2]], [2, 1, 3])

    def test_each_point_twice(self):
        for name, program, _ in programs():
            code = compiled(program)
            many = len(code[0])
            led = {k: k + many for k in range(many)}
            twice = (code[0] + tuple(plain_passes.renamed(row, led) for row in code[0]), code[1] * 2, code[2], code[3] + many)
            self.same(shared(program, twice), shared(program, code))
            self.assertEqual(len(alike_points(twice)), len(alike_points(code)))
            self.same(shared(program, shared(program, twice)), shared(program, code))

    def test_the_order_of_points_does_not_matter(self):
        source = random.Random(5)
        for name, program, _ in programs():
            code = compiled(program)
            order = list(range(len(code[0])))
            source.shuffle(order)
            self.same(shared(program, moved_code(code, order)), shared(program, code))


class InTurn(Case):
    """[111]."""

    def test_names(self):
        program = Folding.SUM
        code = compiled(program)
        self.same(passed_through(program, code, ()), code)
        for name, do_pass in zip(NAMES, PASSES):
            self.same(passed_through(program, code, (name,)), do_pass(program, code))
        both = passed_through(program, code, ("folded", "placed", "folded", "shared", "shared"))
        self.same(both, shared(program, folded(program, placed(program, folded(program, code)))))

    def test_unknown_names(self):
        code = compiled(const(1))
        for names, wrong in ((("fold",), "fold"), (("folded", "", "x"), ""), (("folded", "placed", "Shared"), "Shared")):
            with self.assertRaises(UnknownName) as caught:
                passed_through(const(1), code, names)
            self.assertEqual(caught.exception.name, wrong)

    def test_unknown_names_come_ahead_of_passes(self):
        program, code = many_ways()
        with self.assertRaises(UnknownName):
            passed_through(program, code, ("folded", "none"))


def many_ways():
    """A code whose walk comes to very many rows: nine tests whose sides join at points without names."""
    inner = iff(prim("more"), const(1), const(1))
    program = inner
    for _ in range(8):
        program = seq(inner, program)
    place, rows = (), []
    for k in range(9):
        here = place + (0,) if k < 8 else place
        many = len(rows)
        rows += [("prim", "more", here + (0,), (), many + 1), ("test", many + 2, many + 3)]
        rows += [("load", 1, many + 4), ("load", 1, many + 4)]
        rows += [("load", 1, many + 5 + more) for more in range(45)]
        place = place + (1,)
    rows.append(("back",))
    return program, code_of(*rows)


class TooManyRows(Case):
    def test_more_than_30000_rows(self):
        program, code = many_ways()
        self.let_by(program, code)
        for do_pass in (folded, placed, known):
            with self.assertRaises(TooMany) as caught:
                do_pass(program, code)
            self.assertEqual(caught.exception.what, "rows")
        self.assertEqual(len(pruned(program, code)[0]), len(code[0]))
        self.assertEqual(idle_points(program, code), ())
        self.assertLess(len(shared(program, code)[0]), len(code[0]))


class AllCodes(Case):
    def test_samples(self):
        for name, program, inputs in programs():
            code = compiled(program)
            self.check_points(program, code)
            self.check_runs(program, [code] + self.check_passes(program, code), inputs)

    def test_a_code_that_is_not_steady(self):
        """It is let by, and what the passes make of it is, too."""
        program = prim("show", prim("ask"))
        frame = ("args", (), 0, ())
        rows = (("prim", "ask", (0,), (), 1), ("push", 2, (), 4), ("to", 0, 3), ("prim", "show", (), (0,), 4), ("back",))
        code = code_of(*rows, maps={1: ("give", (frame,)), 2: ("give", (frame,)), 4: GIVE})
        self.let_by(program, code)
        self.assertFalse(is_steady(program, code))
        self.check_points(program, code)
        self.check_passes(program, code)

    def test_odd_codes(self):
        source, made, odd = random.Random(4), plain_meaning.Programs(4), Odd(4)
        told = {"idle": 0, "knowable": 0, "unsound": 0, "local": 0}
        cases = [program for _, program, _ in programs()]
        cases += [renumbered(made.program(source.randrange(1, 5))) for _ in range(60)]
        cases += [turned(program)[0] for program in cases[-8:]]
        for program in cases:
            if node_count(program) > 90:
                continue
            code = compiled(program)
            for _ in range(2):
                code = odd.changed(program, code, 14)
                visits = self.check_points(program, code)
                made_codes = self.check_passes(program, code)
                for word in ("idle", "knowable"):
                    told[word] += visits[word] != ()
                told["local"] += any(chart is not None and len(chart[-1]) > 1 for chart in code[1])
                if sound_fault(code) is None and is_steady(program, code):
                    self.check_runs(program, [code] + made_codes, (3, 4))
                else:
                    told["unsound"] += 1
        self.assertTrue(all(many > 2 for many in told.values()), told)


if __name__ == "__main__":
    unittest.main()
