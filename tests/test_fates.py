import unittest

from keptrest.datatext import datum_at, read_data
from keptrest.errors import NotThere
from keptrest.expander import expanded, is_clean, lot_of, renamed, word_fates

BASE = ("base",)
LITERAL = ("literal",)
MACRO = ("macro",)
PATTERN = ("pattern",)
QUOTED = ("quoted",)


def binds(number):
    return ("binds", number)


def refers(number):
    return ("refers", number)


class Fates(unittest.TestCase):
    def check(self, text, *expected):
        """Expected are the words in their order, each with its fates."""
        data = read_data(text)
        found = word_fates(data)
        self.assertEqual([path for path, _ in found], sorted(path for path, _ in found))
        told = [(datum_at(data, path)[1], fates) for path, fates in found]
        self.assertEqual(told, [(word, tuple(fates)) for word, *fates in expected], text)

    def test_names(self):
        self.check("(fn (a b . c) (add a c))", ("fn", BASE), ("a", binds(0)), ("b", binds(1)), ("c", binds(2)), ("add", BASE),
                   ("a", refers(0)), ("c", refers(2)))
        self.check("(let ((a 1)) (set a a))", ("let", BASE), ("a", binds(0)), ("set", BASE), ("a", refers(0)), ("a", refers(0)))
        self.check("(rec ((a a)) 1)", ("rec", BASE), ("a", binds(0)), ("a", refers(0)))
        self.check("(define (f x) f) f", ("define", BASE), ("f", binds(0)), ("x", binds(1)), ("f", refers(0)), ("f", refers(0)))
        self.check("(fn a a)", ("fn", BASE), ("a", binds(0)), ("a", refers(0)))

    def test_numbers_are_those_of_the_core_program(self):
        self.check("(let ((a (fn (x) x)) (b 1)) b)", ("let", BASE), ("a", binds(0)), ("fn", BASE), ("x", binds(1)),
                   ("x", refers(1)), ("b", binds(2)), ("b", refers(2)))
        self.check("(define a (fn (x) add)) (define b x2) (define x2 b)",
                   ("define", BASE), ("a", binds(0)), ("fn", BASE), ("x", binds(3)), ("add", BASE), ("define", BASE),
                   ("b", binds(1)), ("x2", refers(2)), ("define", BASE), ("x2", binds(2)), ("b", refers(1)))
        self.check("(let ((p add) (q (fn (z) z))) q)", ("let", BASE), ("p", binds(0)), ("add", BASE), ("q", binds(3)),
                   ("fn", BASE), ("z", binds(4)), ("z", refers(4)), ("q", refers(3)))

    def test_prim_words(self):
        self.check("(if add 1 2)", ("if", BASE), ("add", BASE))
        self.check("(fn (x) put-first)", ("fn", BASE), ("x", binds(0)), ("put-first", BASE))

    def test_quotes(self):
        self.check("'(a (b) . c)", ("quote", BASE), ("a", QUOTED), ("b", QUOTED), ("c", QUOTED))
        self.check("(let ((a 1)) 'a)", ("let", BASE), ("a", binds(0)), ("quote", BASE), ("a", QUOTED))
        self.check("''a", ("quote", BASE), ("quote", QUOTED), ("a", QUOTED))

    def test_macros(self):
        self.check("(macro m (k) ((m k _ a) (let ((x a)) x))) (m k 1 2)",
                   ("macro", BASE), ("m", MACRO), ("k", LITERAL), ("m", PATTERN), ("k", LITERAL), ("_", PATTERN), ("a", PATTERN),
                   ("let", BASE), ("x", binds(0)), ("a", PATTERN), ("x", refers(0)), ("m", MACRO), ("k", LITERAL))

    def test_a_macro_without_uses(self):
        self.check("(macro m (k) (((k z) k (a b) & . c) (x (a b) & _ c))) 1",
                   ("macro", BASE), ("m", MACRO), ("k", LITERAL), ("k", PATTERN), ("z", PATTERN), ("k", LITERAL), ("a", PATTERN),
                   ("b", PATTERN), ("&", PATTERN), ("c", PATTERN), ("x",), ("a", PATTERN), ("b", PATTERN), ("&", PATTERN),
                   ("_", PATTERN), ("c", PATTERN))

    def test_local_macros(self):
        self.check("(macros ((m () ((_ a) a))) (m 1))", ("macros", BASE), ("m", MACRO), ("_", PATTERN), ("a", PATTERN),
                   ("a", PATTERN), ("m", MACRO))

    def test_words_passed_to_macros(self):
        self.check("(macro m () ((_ x e) (let ((x 1)) e))) (m y (add y y))",
                   ("macro", BASE), ("m", MACRO), ("_", PATTERN), ("x", PATTERN), ("e", PATTERN), ("let", BASE), ("x", PATTERN),
                   ("e", PATTERN), ("m", MACRO), ("y", binds(0)), ("add", BASE), ("y", refers(0)), ("y", refers(0)))
        self.check("(macro m () ((_ a) 5)) (m (if x))",
                   ("macro", BASE), ("m", MACRO), ("_", PATTERN), ("a", PATTERN), ("m", MACRO), ("if",), ("x",))

    def test_several_fates(self):
        self.check("(macro m () ((_ a) (pair a 'a))) (define y 1) (m y)",
                   ("macro", BASE), ("m", MACRO), ("_", PATTERN), ("a", PATTERN), ("pair", BASE), ("a", PATTERN), ("quote", BASE),
                   ("a", PATTERN), ("define", BASE), ("y", binds(0)), ("m", MACRO), ("y", QUOTED, refers(0)))
        self.check("(macro m () ((_ a) (let ((t a)) 't))) (m (m 1))",
                   ("macro", BASE), ("m", MACRO), ("_", PATTERN), ("a", PATTERN), ("let", BASE), ("t", binds(0), binds(1)),
                   ("a", PATTERN), ("quote", BASE), ("t", QUOTED), ("m", MACRO), ("m", MACRO))
        self.check("(macro m () ((_ a) (pair (let ((a 1)) a) (fn (a) a)))) (m z)",
                   ("macro", BASE), ("m", MACRO), ("_", PATTERN), ("a", PATTERN), ("pair", BASE), ("let", BASE), ("a", PATTERN),
                   ("a", PATTERN), ("fn", BASE), ("a", PATTERN), ("a", PATTERN), ("m", MACRO),
                   ("z", binds(0), binds(1), refers(0), refers(1)))

    def test_looked_up_at_the_top_and_later(self):
        self.check("(m 1) (macro m () ((_ a) a))", ("m", MACRO), ("macro", BASE), ("m", MACRO), ("_", PATTERN), ("a", PATTERN),
                   ("a", PATTERN))
        self.check("(seq (define a 1)) a", ("seq", BASE), ("define", BASE), ("a", binds(0)), ("a", refers(0)))

    def test_matched_literals(self):
        text = "(macro m (k) ((_ k) 1) ((_ a) 2)) (pair (m k) (fn (k) (m k)))"
        self.check(text, ("macro", BASE), ("m", MACRO), ("k", LITERAL), ("_", PATTERN), ("k", LITERAL), ("_", PATTERN),
                   ("a", PATTERN), ("pair", BASE), ("m", MACRO), ("k", LITERAL), ("fn", BASE), ("k", binds(0)), ("m", MACRO), ("k",))

    def test_literals_that_are_looked_up_are_not_base(self):
        text = "(macro m (if) ((_ if) 1)) (m if)"
        self.check(text, ("macro", BASE), ("m", MACRO), ("if", LITERAL), ("_", PATTERN), ("if", LITERAL), ("m", MACRO),
                   ("if", LITERAL))

    def test_macros_that_templates_make(self):
        text = "(macro make () ((_ n) (macro n () ((_ x) (let ((t x)) (add t x)))))) (make dbl) (dbl 4)"
        self.check(text, ("macro", BASE), ("make", MACRO), ("_", PATTERN), ("n", PATTERN), ("macro", BASE), ("n", PATTERN),
                   ("_", PATTERN), ("x", PATTERN), ("let", BASE), ("t", binds(0)), ("x", PATTERN), ("add", BASE), ("t", refers(0)),
                   ("x", PATTERN), ("make", MACRO), ("dbl", MACRO), ("dbl", MACRO))

    def test_as_it_is(self):
        text = "(macro make () ((_ n) (macro n () ((_ a (& &)) '(a (& &)))))) (make q) (q 1 b)"
        self.check(text, ("macro", BASE), ("make", MACRO), ("_", PATTERN), ("n", PATTERN), ("macro", BASE), ("n", PATTERN),
                   ("_", PATTERN), ("a", PATTERN), ("&", PATTERN), ("&", PATTERN), ("quote", BASE), ("a", PATTERN), ("&", PATTERN),
                   ("&", PATTERN), ("make", MACRO), ("q", MACRO), ("q", MACRO), ("b", QUOTED))

    def test_tails(self):
        data = read_data("(fn (a . b) b)")
        self.assertEqual(word_fates(data)[2], ((0, 1, 1), (binds(1),)))


class Lots(unittest.TestCase):
    OR = "(macro my-or () ((_ a b) (let ((t a)) (if t t b)))) (define t 5) (my-or #no t)"

    def test_example(self):
        data = read_data(self.OR)
        template = ((0, 3, 1, 1, 0, 0), (0, 3, 1, 2, 1), (0, 3, 1, 2, 2))
        others = ((1, 1), (2, 2))
        for lot in (template, others):
            for path in lot:
                self.assertEqual(lot_of(data, path), lot)
                self.assertIs(is_clean(data, path), True)

    def test_a_lot_of_one(self):
        data = read_data(self.OR)
        for path in ((0, 0), (0, 1), (0, 3, 0, 1), (1, 0), (2, 0)):
            self.assertEqual(lot_of(data, path), (path,))
            self.assertIs(is_clean(data, path), False)

    def test_a_word_without_fates(self):
        data = read_data("(macro m () ((_) x)) 1")
        self.assertEqual(lot_of(data, (0, 3, 1)), ((0, 3, 1),))
        self.assertIs(is_clean(data, (0, 3, 1)), False)

    def test_lots_through_several_numbers(self):
        text = "(macro m () ((_ a b) (seq (let ((a 1)) b)))) (fn (x) (pair (m y y) (m y x)))"
        data = read_data(text)
        self.assertEqual(lot_of(data, (1, 2, 1, 1)), ((1, 2, 1, 1), (1, 2, 1, 2)))
        text = "(macro m () ((_ b) (pair (let ((x 1)) b) (fn (x) x)))) (m 2)"
        data = read_data(text)
        self.assertEqual(lot_of(data, (0, 3, 1, 1, 1, 0, 0)), ((0, 3, 1, 1, 1, 0, 0),))
        self.assertEqual(lot_of(data, (0, 3, 1, 2, 1, 0)), ((0, 3, 1, 2, 1, 0), (0, 3, 1, 2, 2)))
        text = "(macro m () ((_ a b) (pair (fn (a) b) (fn (b) a)))) (define p 1) (define q 2) (m p q)"
        data = read_data(text)
        self.assertEqual(lot_of(data, (1, 1)), ((1, 1), (3, 1)))
        self.assertEqual(lot_of(data, (3, 2)), ((2, 1), (3, 2)))
        text = "(macro m () ((_ a b) (fn (a) (fn (b) 1)))) (m x x)"
        data = read_data(text)
        self.assertEqual(lot_of(data, (1, 1)), ((1, 1),))

    def test_lots_that_hang_together_by_others(self):
        text = "(macro two () ((_ w b c) (pair (let ((w 1)) b) (let ((w 2)) c)))) (two y y y)"
        data = read_data(text)
        lot = ((1, 1), (1, 2), (1, 3))
        for path in lot:
            self.assertEqual(lot_of(data, path), lot)
            self.assertIs(is_clean(data, path), True)

    def test_clean_with_one_fate_alone(self):
        self.assertIs(is_clean(read_data("(fn (a) 1)"), (0, 1, 0)), True)
        self.assertIs(is_clean(read_data("(define a 1)"), (0, 1)), True)

    def test_not_clean(self):
        text = "(define y 1) (macro m () ((_ a) 'a)) (pair y (m y))"
        data = read_data(text)
        self.assertIs(is_clean(data, (0, 1)), True)
        self.assertIs(is_clean(data, (2, 2, 1)), False)
        text = "(define y 1) (macro m () ((_ a) (pair a 'a))) (pair y (m y))"
        data = read_data(text)
        self.assertEqual(lot_of(data, (0, 1)), ((0, 1), (2, 1), (2, 2, 1)))
        for path in lot_of(data, (0, 1)):
            self.assertIs(is_clean(data, path), False)
        text = "(define y 1) (macro m (y) ((_ y) 1)) (pair y (m y))"
        data = read_data(text)
        self.assertIs(is_clean(data, (0, 1)), True)
        self.assertIs(is_clean(data, (2, 2, 1)), False)

    def test_not_there(self):
        data = read_data("(fn (a) 5 () (a))")
        for path in ((), (0,), (0, 1), (0, 2), (0, 3), (0, 4), (1,), (0, 9), (0, 1, 1), (0, 0, 0)):
            for function in (lot_of, is_clean):
                with self.assertRaises(NotThere) as caught:
                    function(data, path)
                self.assertEqual(caught.exception.path, path)


class Renaming(unittest.TestCase):
    def test_renamed(self):
        data = read_data("(fn (a . b) (a b '(a . c)))")
        self.assertEqual(renamed(data, (), "z"), data)
        self.assertEqual(renamed(data, ((0, 1, 0), (0, 2, 0)), "z"), read_data("(fn (z . b) (z b '(a . c)))"))
        self.assertEqual(renamed(data, ((0, 2, 2, 1, 1), (0, 0), (0, 1, 1)), "z"), read_data("(z (a . z) (a b '(a . z)))"))
        self.assertEqual(renamed(read_data("a b"), ((1,), (1,)), "b"), read_data("a b"))
        self.assertEqual(renamed((), (), "z"), ())

    def test_not_there(self):
        data = read_data("(fn (a) 5 ())")
        for paths, path in ((((0,),), (0,)), (((0, 0), (0, 2), (7,)), (0, 2)), (((),), ()), (((0, 1, 0), (0, 3)), (0, 3)),
                            (((0, 1, 1),), (0, 1, 1))):
            with self.assertRaises(NotThere) as caught:
                renamed(data, paths, "z")
            self.assertEqual(caught.exception.path, path)

    TEXTS = (
        Lots.OR,
        "(macro swap! () ((_ a b) (let ((t a)) (set a b) (set b t)))) (let ((t 1) (u 2)) (swap! t u) (pair t u))",
        "(define (f x . r) (if x (f r) (let ((y x) (x r)) (pair x y)))) (f 1 2)",
        "(macro def () ((_ n v) (seq (define n v) (define hidden n)))) (def p 1) (def q p) (pair p q)",
        "(macros ((e () ((_) #yes) ((_ a . b) (let ((t a)) (o . b)))) (o () ((_) #no) ((_ a . b) (e . b)))) (fn (x) (e x 2 3)))",
        "(macro cond (else) ((_ (else a)) a) ((_ (t a) r &) (if t a (cond r &)))) (fn (k) (cond (k 1) (else k)))",
        "(macro m () ((_ a b) (pair (fn (a) b) (fn (b) a)))) (define p 1) (define q 2) (m p q)",
        "(macro make () ((_ n) (macro n () ((_ x) (let ((t x)) (add t x)))))) (make dbl) (fn (t) (dbl t))",
    )

    def test_a_clean_lot_may_be_renamed(self):
        count = 0
        for text in self.TEXTS:
            data = read_data(text)
            core = expanded(data, ())
            literals = {datum_at(data, path)[1] for path, fates in word_fates(data) if LITERAL in fates}
            for path, _ in word_fates(data):
                if is_clean(data, path) and datum_at(data, path)[1] not in literals:
                    count += 1
                    lot = lot_of(data, path)
                    self.assertEqual(len({datum_at(data, other) for other in lot}), 1)
                    self.assertEqual(expanded(renamed(data, lot, "fresh-word"), ()), core)
        self.assertGreater(count, 30)


if __name__ == "__main__":
    unittest.main()
