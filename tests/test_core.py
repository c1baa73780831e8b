import unittest

from keptrest.core import (children, core_fault, depth_of, is_core, is_program, node_count, places_of, term_at,
                           with_children)
from keptrest.errors import NotThere

TOP = 10 ** 30
C = ("const", 1)
FORMS = {
    "const": C,
    "var": ("let", 0, C, ("var", 0)),
    "set": ("let", 0, C, ("set", 0, C)),
    "if": ("if", C, C, C),
    "fn": ("fn", (0, 1), 2, C),
    "let": ("let", 0, C, C),
    "seq": ("seq", C, C),
    "call": ("call", C, (C, C)),
    "prim": ("prim", "add", (C, C)),
}


def chain(depth, inner=C):
    term = inner
    for _ in range(depth):
        term = ("seq", C, term)
    return term


class Faults(unittest.TestCase):
    def check(self, value, place, word):
        self.assertEqual(core_fault(value), (place, word), value)
        self.assertIs(is_core(value), False)
        self.assertIs(is_program(value), False)

    def right(self, value):
        self.assertIsNone(core_fault(value), value)
        self.assertIs(is_core(value), True)

    def test_each_form(self):
        for term in FORMS.values():
            self.right(term)
            self.assertIs(is_program(term), True)

    def test_constants(self):
        for value in (0, TOP - 1, 1 - TOP, True, False, (), ("name", "a"), ("name", "a" * 30)):
            self.right(("const", value))
        for value in (TOP, -TOP, None, "a", ("name", "1"), ("name", "a" * 31), ("name",), (1,), ("list", (1,), ()), ((),),
                      ("thing", 0), ("name", ("name", "a"))):
            self.check(("const", value), (), "form")

    def test_no_terms_at_all(self):
        for value in (None, True, False, 0, 1, "", "const", (), ((),), ("",), (None,), (1, 2), ("const",), ("var",),
                      ("const", 1, 2), ("name", "a"), ("list", (1,), ()), (("const", 1),), ("Const", 1), ("set", 0),
                      ("if", C, C), ("if", C, C, C, C), ("fn", (), None), ("let", 0, C), ("seq", C), ("seq", C, C, C),
                      ("call", C), ("prim", "add"), ("prim", "ask", (), ()), ("prompt", C), (True, 1), (("const",), 1)):
            self.check(value, (), "form")

    def test_numbers(self):
        for number in (-1, True, False, None, "0", (), (0,)):
            self.check(("var", number), (), "form")
            self.check(("set", number, C), (), "form")
            self.check(("let", number, C, C), (), "form")
            self.check(("fn", (number,), None, C), (), "form")
            self.check(("fn", (0, number), 1, C), (), "form")
            if number is not None:
                self.check(("fn", (), number, C), (), "form")
        self.right(("let", 10 ** 40, C, ("var", 10 ** 40)))
        self.right(("fn", (), 0, C))

    def test_tuples(self):
        self.check(("fn", None, None, C), (), "form")
        self.check(("fn", 0, None, C), (), "form")
        self.check(("fn", "", None, C), (), "form")
        self.check(("call", C, None), (), "form")
        self.check(("call", C, "ab"), (), "form")
        self.check(("call", C, C), (1,), "form")
        self.check(("prim", "ask", None), (), "form")
        self.check(("prim", "ask", 0), (), "form")

    def test_thirteen_and_fourteen(self):
        for many, good in ((12, True), (13, True), (14, False)):
            params = ("fn", tuple(range(many)), None, C)
            args = ("call", C, (C,) * many)
            for term in (params, args):
                self.assertEqual(core_fault(term), None if good else ((), "form"))
                self.assertIs(is_program(term), good)
        self.right(("fn", tuple(range(13)), 13, C))
        self.check(("prim", "add", (C,) * 13), (), "prim")
        self.check(("prim", "add", (C,) * 14), (), "form")

    def test_prims(self):
        self.right(("prim", "ask", ()))
        self.right(("prim", "put first", (C, C)))
        self.check(("prim", "put-first", (C, C)), (), "form")
        self.check(("prim", "prompt", (C,)), (), "form")
        self.check(("prim", "take", (C,)), (), "form")
        self.check(("prim", ("add",), (C, C)), (), "form")
        self.check(("prim", None, (C, C)), (), "form")
        self.check(("prim", "add", (C,)), (), "prim")
        self.check(("prim", "ask", (C,)), (), "prim")
        self.check(("prim", "wind", (C, C)), (), "prim")

    def test_bound(self):
        self.check(("fn", (0, 0), None, C), (), "bound")
        self.check(("fn", (0, 1), 0, C), (), "bound")
        self.check(("let", 0, C, ("let", 0, C, C)), (1,), "bound")
        self.check(("let", 0, ("let", 0, C, C), C), (0,), "bound")
        self.check(("seq", ("let", 0, C, C), ("let", 0, C, C)), (1,), "bound")
        self.check(("seq", ("fn", (0,), 3, C), ("fn", (), 3, C)), (1,), "bound")

    def test_unbound(self):
        self.check(("var", 0), (), "unbound")
        self.check(("set", 0, C), (), "unbound")
        self.check(("let", 0, ("var", 0), ("var", 0)), (0,), "unbound")
        self.check(("let", 0, ("set", 0, C), C), (0,), "unbound")
        self.check(("seq", ("let", 0, C, ("var", 0)), ("var", 0)), (1,), "unbound")
        self.check(("call", ("fn", (0,), None, ("var", 0)), (("var", 0),)), (1,), "unbound")
        self.check(("seq", ("fn", (), 5, ("var", 5)), ("set", 5, C)), (1,), "unbound")
        self.right(("let", 0, C, ("seq", ("set", 0, C), ("fn", (), None, ("var", 0)))))

    def test_the_first_by_writing_order(self):
        bad = ("var", -1)
        self.check(("seq", ("var", 0), bad), (0,), "unbound")
        self.check(("seq", bad, ("var", 0)), (0,), "form")
        self.check(("if", C, ("prim", "add", ()), ("let", 0, ("var", 0), C)), (1,), "prim")
        self.check(("prim", "add", (bad,)), (), "prim")
        self.check(("fn", (0, 0), None, bad), (), "bound")
        self.check(("set", 3, bad), (), "unbound")
        self.check(("let", 0, ("seq", C, bad), ("var", 1)), (0, 1), "form")
        self.check(("let", 0, ("call", C, (C, ("var", 0))), bad), (0, 2), "unbound")
        self.check(("call", C, (("fn", (0,), None, C), ("fn", (0,), None, ("var", 5)))), (2,), "bound")
        self.check(("set", 0, C), (), "unbound")

    def test_form_ahead_of_the_others_at_one_place(self):
        self.check(("fn", (0, 0), -1, C), (), "form")
        self.check(("prim", "no", (C,)), (), "form")
        self.check(("let", 0, C, ("let", True, C, C)), (1,), "form")

    def test_example(self):
        self.check(("let", 0, ("var", 0), ("var", 0)), (0,), "unbound")

    def test_deep_and_wide(self):
        self.right(chain(240))
        self.check(chain(240, ("var", 0)), (1,) * 240, "unbound")
        wide = C
        for _ in range(5):
            wide = ("call", C, (wide,) * 6)
        self.right(wide)


class Programs(unittest.TestCase):
    def test_plain_numbers(self):
        self.assertIs(is_program(("fn", (0, 1), 2, ("let", 3, C, C))), True)
        self.assertIs(is_program(("fn", (1, 0), 2, C)), False)
        self.assertIs(is_program(("fn", (), 1, C)), False)
        self.assertIs(is_program(("let", 1, C, C)), False)
        self.assertIs(is_program(("let", 1, ("let", 0, C, C), C)), False)
        self.assertIs(is_program(("let", 0, ("let", 1, C, C), C)), True)

    def test_bounds(self):
        self.assertIs(is_program(chain(200)), True)
        self.assertIs(is_program(chain(201)), False)
        self.assertIs(is_core(chain(201)), True)
        block = ("call", C, (C,) * 12)
        wide = ("call", block, (block,) * 11)
        row = ("call", C, (wide,) * 11)
        self.assertEqual(node_count(row), 2 + 11 * 169)
        for more, good in ((1998, True), (1999, True), (2000, True), (2001, False)):
            term = row
            for _ in range(more - node_count(row)):
                term = ("fn", (), None, term)
            self.assertEqual(node_count(term), more)
            self.assertIs(is_program(term), good)
            self.assertIs(is_core(term), True)


class Parts(unittest.TestCase):
    X, Y, Z = ("const", 7), ("const", 8), ("const", 9)

    def test_children(self):
        x, y, z = self.X, self.Y, self.Z
        for term, parts in ((C, ()), (("var", 5), ()), (("set", 1, x), (x,)), (("if", x, y, z), (x, y, z)),
                            (("fn", (0, 1), 2, x), (x,)), (("let", 0, x, y), (x, y)), (("seq", x, y), (x, y)),
                            (("call", x, (y, z)), (x, y, z)), (("call", x, ()), (x,)), (("prim", "add", (x, y)), (x, y)),
                            (("prim", "ask", ()), ()), (("prim", "take", (x,)), (x,))):
            self.assertEqual(children(term), parts)
            self.assertEqual(with_children(term, parts), term)
            swapped = tuple(("var", k) for k in range(len(parts)))
            changed = with_children(term, swapped)
            self.assertEqual(children(changed), swapped)
            self.assertEqual(with_children(changed, parts), term)
            self.assertIs(type(changed), tuple)

    def test_heads_stay(self):
        self.assertEqual(with_children(("fn", (3, 1), 2, C), (self.X,)), ("fn", (3, 1), 2, self.X))
        self.assertEqual(with_children(("call", C, (C,)), (self.X, self.Y)), ("call", self.X, (self.Y,)))
        self.assertEqual(with_children(("prim", "prompt", (C,)), (self.X,)), ("prim", "prompt", (self.X,)))
        self.assertEqual(with_children(("set", 4, C), (self.X,)), ("set", 4, self.X))

    def test_places(self):
        term = ("let", 0, ("call", C, (C, C)), ("if", ("var", 0), ("fn", (), None, C), ("prim", "ask", ())))
        places = ((), (0,), (0, 0), (0, 1), (0, 2), (1,), (1, 0), (1, 1), (1, 1, 0), (1, 2))
        self.assertEqual(places_of(term), places)
        self.assertEqual(places, tuple(sorted(places)))
        self.assertEqual(node_count(term), 10)
        self.assertEqual(depth_of(term), 3)
        self.assertEqual(places_of(C), ((),))
        self.assertEqual((node_count(C), depth_of(C)), (1, 0))

    def test_term_at(self):
        term = ("let", 0, ("call", C, (C, C)), ("if", ("var", 0), ("fn", (), None, C), ("prim", "ask", ())))
        self.assertEqual(term_at(term, ()), term)
        self.assertEqual(term_at(term, (1, 0)), ("var", 0))
        self.assertEqual(term_at(term, (1, 1, 0)), C)
        for place in ((2,), (0, 3), (1, 0, 0), (1, 2, 0), (1, 1, 1), (5, 5)):
            with self.assertRaises(NotThere) as caught:
                term_at(term, place)
            self.assertEqual(caught.exception.path, place)

    def test_terms_that_are_not_closed(self):
        term = ("seq", ("var", 3), ("set", 2, ("var", 9)))
        self.assertEqual(places_of(term), ((), (0,), (1,), (1, 0)))

    def test_prompt_programs(self):
        term = ("prim", "prompt", (("fn", (), None, ("prim", "take", (("fn", (0,), None, C),))),))
        self.assertEqual(node_count(term), 5)
        self.assertEqual(depth_of(term), 4)
        self.assertEqual(term_at(term, (0, 0)), ("prim", "take", (("fn", (0,), None, C),)))
        self.assertIs(is_core(term), False)

    def test_deep(self):
        term = chain(300)
        self.assertEqual((node_count(term), depth_of(term)), (601, 300))
        self.assertEqual(len(places_of(term)), 601)


if __name__ == "__main__":
    unittest.main()
