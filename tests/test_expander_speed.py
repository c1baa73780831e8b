"""Macros that are used many times on long rows."""

import os
import sys
import time
import unittest

sys.path.insert(0, os.path.dirname(os.path.abspath(__file__)))

import plain_expander

from keptrest.datatext import read_data
from keptrest.errors import NoRule, TooGreat, TooMany, Uneven
from keptrest.expander import expanded, places_back, uses_in, word_fates

DOWN = "(macro down () ((_) 0) ((_ a r &) (down r &)))"


def rows(macro, items):
    """A macro, and four rows of items behind its word."""
    row = [f"(down {' '.join(part)})" for part in items]
    return read_data(f"{macro}\n(if 1 (seq {' '.join(row)}) 2)")


class Down(unittest.TestCase):
    PROGRAM = rows(DOWN, [["1"] * 249] * 4)

    def test_answers(self):
        zero = ("const", 0)
        core = ("if", ("const", 1), ("seq", zero, ("seq", zero, ("seq", zero, zero))), ("const", 2))
        self.assertEqual(expanded(self.PROGRAM, ()), core)
        self.assertEqual(uses_in(self.PROGRAM), 1000)
        paths = [(1, 2, k) for k in (1, 2, 3, 4)]
        back = (((), (1,)), ((0,), (1, 1)), ((1,), (1, 2)))
        told = places_back(self.PROGRAM)
        self.assertEqual(told[:2], back[:2])
        self.assertEqual([path for place, path in told if len(place) > 1 and place[-1] == 0], paths[:3])
        self.assertEqual(told[-1], ((2,), (1, 3)))
        fates = dict(word_fates(self.PROGRAM))
        self.assertEqual(fates[(1, 2, 1, 0)], (("macro",),))
        self.assertEqual(fates[(0, 4, 1, 0)], (("macro",),))
        self.assertEqual(fates[(0, 4, 0, 1)], (("pattern",),))

    def test_one_use_more(self):
        program = rows(DOWN, [["1"] * 249] * 3 + [["1"] * 250])
        for ask in (uses_in, lambda data: expanded(data, ()), places_back, word_fates):
            with self.assertRaises(TooMany) as caught:
                ask(program)
            self.assertEqual(caught.exception.what, "uses")

    def test_fifty_calls(self):
        begin = time.process_time()
        for _ in range(50):
            expanded(self.PROGRAM, ())
        self.assertLess(time.process_time() - begin, 4)

    def test_uses_take_as_long(self):
        begin = time.process_time()
        for _ in range(20):
            uses_in(self.PROGRAM)
        self.assertLess(time.process_time() - begin, 2)


class FirstItems(unittest.TestCase):
    def test_the_first_item_of_a_pattern_is_not_looked_at(self):
        for first in ("_", "down", "other", "5", "#no", "()", "(a b)", "(_ &)", "a"):
            program = read_data(f"(macro down () (({first}) 0) (({first} a r &) (down r &))) (add (down) (down 1 2))")
            self.assertEqual(expanded(program, ()), ("prim", "add", (("const", 0), ("const", 0))))


class Growing(unittest.TestCase):
    """What uses give grows from use to use, until it is too great."""

    def ends(self, rule, ticks, payload, fits):
        row = " ".join(["t"] * ticks)
        program = read_data(f"(macro g () ((_ () r &) 7) ((_ (a b &) r &) {rule})) (1 (g ({row}) {payload}))")
        if fits:
            self.assertEqual(expanded(program, ())[2], (("const", 7),))
            self.assertEqual(uses_in(program), ticks + 1)
            return
        for ask in (uses_in, lambda data: expanded(data, ())):
            with self.assertRaises(TooGreat) as caught:
                ask(program)
            self.assertEqual(caught.exception.what, "data")

    def test_data(self):
        """Use number j of k gives 3 + k + n + j data."""
        rule = "(g (b &) r & x y)"
        for ticks, fits in ((1, 4995), (20, 4957), (300, 4397)):
            self.ends(rule, ticks, " ".join(["1"] * fits), True)
            self.ends(rule, ticks, " ".join(["1"] * (fits + 1)), False)

    def test_depth(self):
        rule = "(g (b &) (r &))"
        for ticks, fits in ((3, 96), (50, 49), (90, 9)):
            self.ends(rule, ticks, "(" * fits + "1" + ")" * fits, True)
            self.ends(rule, ticks, "(" * (fits + 1) + "1" + ")" * (fits + 1), False)

    def test_copies(self):
        """Each use doubles what it is given."""
        rule = "(g (b &) (r & r &))"
        for ticks in range(1, 9):
            self.ends(rule, ticks, "1", True)
        self.ends(rule, 12, "1", False)


class Shapes(unittest.TestCase):
    """Other patterns for rows, compared with plain_expander."""

    MACROS = (
        ("() ((_) 0) ((_ a r &) (down r &))", "1"), ("() ((_) 0) ((_ a . r) (down . r))", "x"), ("() ((_) 0) ((_ r & a) (down r &))", "1"),
        ("() ((_) 0) ((_ a (r) &) (down (r) &))", "(1)"), ("() ((_) 0) ((_ a (r s) &) (down (s r) &))", "(1 2)"),
        ("() ((_) 0) ((_ a (r &) &) (down (r &) &))", "(1 2 3)"), ("() ((_) 0) ((_ a ((r s &) &) &) (down ((s & r) &) &))", "((1 2 3) (4))"),
        ("(x) ((_) 0) ((_ x x & y) (down x))", "x"), ("() ((_) 0) ((_ a (r . s) &) (down (r . s) &))", "(1 2 . 3)"),
        ("() ((_) 0) ((_ a (_ r &) &) (down (7 r & z) &))", "(1 2)"), ("() ((_ 2 r &) 1) ((_) 0) ((_ a (1 r) &) (down (1 r) &))", "(1 2)"),
        ("() ((_ (r) & 2) 1) ((_) 0) ((_ a (r) &) (down (r) &))", "(1)"), ("() ((_) 0) ((_ a (r s) &) (down (r (& (s &))) &))", "(1 2)"),
    )

    def told(self, program):
        try:
            return expanded(program, ()), uses_in(program), places_back(program), word_fates(program)
        except (NoRule, TooMany, Uneven) as error:
            return type(error).__name__, vars(error)

    def plain(self, program):
        other = plain_expander.Expander(program)
        other.expand(())
        core, back, fates = other.told()
        return core, other.uses, back, fates

    def test_compared(self):
        many = 0
        for macro, item in self.MACROS:
            for count in (0, 1, 2, 7):
                program = rows(f"(macro down {macro})", [[item] * count] * 2)
                told = self.told(program)
                if type(told[0]) is not str:
                    many += 1
                    self.assertEqual(repr(told), repr(self.plain(program)), macro)
        self.assertGreater(many, 30)

    def test_long_rows_of_lists(self):
        begin = time.process_time()
        for macro, item in self.MACROS[:6]:
            program = rows(f"(macro down {macro})", [[item] * 249] * 4)
            self.assertEqual(uses_in(program), 1000)
        self.assertLess(time.process_time() - begin, 6)


if __name__ == "__main__":
    unittest.main()
