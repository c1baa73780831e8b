import itertools
import unittest

from keptrest.core import children, is_core, places_of, term_at
from keptrest.errors import NotThere
from keptrest.names import (binder_place, binders_of, boxed_numbers, free_numbers, is_plain, renumbered, same_core,
                            scope_at, uses_of)

C = ("const", 1)
ADD = ("prim", "add", (("var", 4), ("var", 9)))
PROGRAM = ("let", 4, ("fn", (7, 2), 5, ("seq", ("set", 2, ("var", 7)), ("var", 2))),
           ("call", ("fn", (9,), None, ADD), (("let", 0, ("var", 4), ("set", 4, ("var", 0))),)))


def shifted(term, by):
    """The term with another number for each number."""
    kind = term[0]
    if kind in ("var",):
        return (kind, by[term[1]])
    if kind == "const":
        return term
    if kind == "set":
        return (kind, by[term[1]], shifted(term[2], by))
    if kind == "fn":
        rest = None if term[2] is None else by[term[2]]
        return (kind, tuple(by[n] for n in term[1]), rest, shifted(term[3], by))
    if kind == "let":
        return (kind, by[term[1]], shifted(term[2], by), shifted(term[3], by))
    if kind == "call":
        return (kind, shifted(term[1], by), tuple(shifted(part, by) for part in term[2]))
    if kind == "prim":
        return (kind, term[1], tuple(shifted(part, by) for part in term[2]))
    return (kind, *[shifted(part, by) for part in term[1:]])


def slow_free(term):
    """Straight from [16]."""
    kind = term[0]
    below = [slow_free(part) for part in children(term)]
    if kind == "var":
        return {term[1]}
    if kind == "set":
        return {term[1]} | below[0]
    if kind == "fn":
        return below[0] - set(term[1]) - {term[2]}
    if kind == "let":
        return below[0] | (below[1] - {term[1]})
    return set().union(*below)


class Numbers(unittest.TestCase):
    def test_free(self):
        self.assertEqual(free_numbers(C), ())
        self.assertEqual(free_numbers(("var", 5)), (5,))
        self.assertEqual(free_numbers(("set", 5, ("var", 2))), (2, 5))
        self.assertEqual(free_numbers(("fn", (1,), 2, ("call", ("var", 1), (("var", 2), ("var", 3), ("var", 0))))), (0, 3))
        self.assertEqual(free_numbers(("let", 1, ("var", 1), ("var", 1))), (1,))
        self.assertEqual(free_numbers(("let", 1, C, ("var", 1))), ())
        self.assertEqual(free_numbers(("if", ("var", 30), ("var", 4), ("var", 200))), (4, 30, 200))
        self.assertEqual(free_numbers(PROGRAM), ())

    def test_free_in_terms_that_bind_again(self):
        inner = ("let", 1, ("var", 1), ("seq", ("fn", (1,), None, ("var", 1)), ("var", 1)))
        self.assertEqual(free_numbers(inner), (1,))
        self.assertEqual(free_numbers(("let", 1, C, inner)), ())
        self.assertEqual(free_numbers(("seq", ("let", 1, C, ("var", 1)), ("var", 1))), (1,))
        self.assertEqual(free_numbers(("fn", (1, 1), None, ("var", 1))), ())
        self.assertEqual(free_numbers(("seq", ("fn", (1, 1), 1, ("var", 1)), C)), ())

    def test_free_at_all_places(self):
        for place in places_of(PROGRAM):
            term = term_at(PROGRAM, place)
            self.assertEqual(free_numbers(term), tuple(sorted(slow_free(term))))

    def test_binders(self):
        self.assertEqual(binders_of(PROGRAM), (4, 7, 2, 5, 9, 0))
        self.assertEqual(binders_of(C), ())
        self.assertEqual(binders_of(("let", 3, ("let", 3, C, C), ("fn", (3,), 3, C))), (3, 3, 3, 3))
        self.assertEqual(binders_of(("let", 1, ("fn", (), 2, C), ("let", 3, C, C))), (1, 2, 3))

    def test_boxed(self):
        self.assertEqual(boxed_numbers(PROGRAM), (2, 4))
        self.assertEqual(boxed_numbers(C), ())
        self.assertEqual(boxed_numbers(("seq", ("set", 9, C), ("set", 3, ("set", 9, C)))), (3, 9))

    def test_binder_place(self):
        for number, place in ((4, ()), (7, (0,)), (2, (0,)), (5, (0,)), (9, (1, 0)), (0, (1, 1)), (1, None), (99, None)):
            self.assertEqual(binder_place(PROGRAM, number), place)

    def test_uses(self):
        for number, places in ((4, ((1, 0, 0, 0), (1, 1, 0), (1, 1, 1))), (2, ((0, 0, 0), (0, 0, 1))), (5, ()), (3, ()),
                               (7, ((0, 0, 0, 0),)), (9, ((1, 0, 0, 1),)), (0, ((1, 1, 1, 0),))):
            self.assertEqual(uses_of(PROGRAM, number), places)

    def test_scope(self):
        for place, numbers in (((), ()), ((0,), ()), ((0, 0), (2, 5, 7)), ((0, 0, 0, 0), (2, 5, 7)), ((1,), (4,)),
                               ((1, 0), (4,)), ((1, 0, 0), (4, 9)), ((1, 1), (4,)), ((1, 1, 0), (4,)), ((1, 1, 1), (0, 4)),
                               ((1, 1, 1, 0), (0, 4))):
            self.assertEqual(scope_at(PROGRAM, place), numbers, place)
        for place in ((2,), (0, 1), (0, 0, 2), (1, 1, 1, 0, 0), (1, 2)):
            with self.assertRaises(NotThere) as caught:
                scope_at(PROGRAM, place)
            self.assertEqual(caught.exception.path, place)

    def test_what_stands_is_in_scope(self):
        for place in places_of(PROGRAM):
            self.assertLessEqual(set(free_numbers(term_at(PROGRAM, place))), set(scope_at(PROGRAM, place)))


class Renumbering(unittest.TestCase):
    def test_example(self):
        term = ("fn", (5, 2), None, ("let", 9, ("var", 2), ("var", 5)))
        self.assertEqual(renumbered(term), ("fn", (0, 1), None, ("let", 2, ("var", 1), ("var", 0))))

    def test_facts(self):
        plain = renumbered(PROGRAM)
        self.assertIs(is_core(plain), True)
        self.assertIs(is_plain(PROGRAM), False)
        self.assertIs(is_plain(plain), True)
        self.assertEqual(renumbered(plain), plain)
        self.assertEqual(places_of(plain), places_of(PROGRAM))
        led = dict(zip(binders_of(PROGRAM), binders_of(plain)))
        self.assertEqual(sorted(led.values()), list(range(6)))
        for place in places_of(plain):
            before = free_numbers(term_at(PROGRAM, place))
            self.assertEqual(free_numbers(term_at(plain, place)), tuple(sorted(led[n] for n in before)))
        self.assertEqual(boxed_numbers(plain), tuple(sorted(led[n] for n in boxed_numbers(PROGRAM))))

    def test_all_one_to_one_maps(self):
        plain = renumbered(PROGRAM)
        for numbers in itertools.permutations((0, 2, 4, 5, 7, 9)):
            other = shifted(PROGRAM, dict(zip((0, 2, 4, 5, 7, 9), numbers)))
            self.assertEqual(renumbered(other), plain)
            self.assertIs(same_core(other, PROGRAM), True)
            self.assertIs(is_plain(other), numbers == (5, 2, 0, 3, 1, 4))

    def test_is_plain(self):
        for term, plain in ((C, True), (("fn", (0,), 1, C), True), (("fn", (1,), 0, C), False), (("let", 1, C, C), False),
                            (("let", 0, ("let", 1, C, C), ("let", 2, C, C)), True),
                            (("let", 0, ("let", 2, C, C), ("let", 1, C, C)), False)):
            self.assertIs(is_plain(term), plain)

    def test_same_core(self):
        one = ("fn", (0, 1), None, ("var", 0))
        self.assertIs(same_core(one, ("fn", (1, 0), None, ("var", 1))), True)
        self.assertIs(same_core(one, ("fn", (0, 1), None, ("var", 1))), False)
        self.assertIs(same_core(one, ("fn", (0,), 1, ("var", 0))), False)
        self.assertIs(same_core(("const", 1), ("const", True)), False)
        self.assertIs(same_core(("const", 0), ("const", False)), False)
        self.assertIs(same_core(("const", ()), ("const", ())), True)
        self.assertIs(same_core(C, ("seq", C, C)), False)

    def test_prompt_programs(self):
        term = ("prim", "prompt", (("fn", (8,), None, ("prim", "take", (("var", 8),))),))
        self.assertEqual(renumbered(term), ("prim", "prompt", (("fn", (0,), None, ("prim", "take", (("var", 0),))),)))
        self.assertEqual(binders_of(term), (8,))
        self.assertEqual(uses_of(term, 8), ((0, 0, 0),))


if __name__ == "__main__":
    unittest.main()
