import random
import unittest

from keptrest.core import is_program, node_count, places_of, term_at
from keptrest.datatext import datum_at, datum_text, read_data
from keptrest.expander import expanded, places_back, uses_in
from keptrest.meaning import run
from keptrest.names import is_plain
from keptrest.prims import WANTED

C1, C2, C3 = ("const", 1), ("const", 2), ("const", 3)
NOTHING = ("const", ())


def var(number):
    return ("var", number)


def core(text, order=()):
    return expanded(read_data(text), order)


def ends(text, inputs=()):
    ending, output, _, _ = run(core(text), inputs, (5000, 5000), 20000)
    return ending[1] if ending[0] == "end" else ending


class Expressions(unittest.TestCase):
    def check(self, text, term):
        found = core(text)
        self.assertEqual(repr(found), repr(term), text)
        self.assertIs(is_program(found), True)

    def test_constants(self):
        for text, value in (("5", 5), ("-5", -5), ("#yes", True), ("#no", False), ("()", ())):
            self.check(text, ("const", value))

    def test_words(self):
        self.check("(fn (a) a)", ("fn", (0,), None, var(0)))

    def test_prim_words_alone(self):
        for name, wanted in WANTED.items():
            word = name.replace(" ", "-")
            numbers = tuple(range(len(wanted)))
            self.check(word, ("fn", numbers, None, ("prim", name, tuple(var(k) for k in numbers))))
        self.check("(let ((a add)) a)", ("let", 0, ("fn", (1, 2), None, ("prim", "add", (var(1), var(2)))), var(0)))
        self.check("(if add 1 2)", ("if", ("fn", (0, 1), None, ("prim", "add", (var(0), var(1)))), C1, C2))

    def test_quote(self):
        self.check("'5", ("const", 5))
        self.check("'#no", ("const", False))
        self.check("'()", NOTHING)
        self.check("'a", ("const", ("name", "a")))
        self.check("'if", ("const", ("name", "if")))
        pair = "pair"
        self.check("'(a 1)", ("prim", pair, (("const", ("name", "a")), ("prim", pair, (C1, NOTHING)))))
        self.check("'(a . b)", ("prim", pair, (("const", ("name", "a")), ("const", ("name", "b")))))
        self.check("'((1) . 2)", ("prim", pair, (("prim", pair, (C1, NOTHING)), C2)))
        self.check("''a", ("prim", pair, (("const", ("name", "quote")), ("prim", pair, (("const", ("name", "a")), NOTHING)))))

    def test_if(self):
        self.check("(if 1 2 3)", ("if", C1, C2, C3))

    def test_seq(self):
        self.check("(seq 1)", C1)
        self.check("(let () (seq 1 2 3))", ("seq", C1, ("seq", C2, C3)))

    def test_set(self):
        self.check("(let ((a 1)) (set a 2))", ("let", 0, C1, ("set", 0, C2)))

    def test_fn(self):
        self.check("(fn () 1)", ("fn", (), None, C1))
        self.check("(fn (a b) b)", ("fn", (0, 1), None, var(1)))
        self.check("(fn (a . b) b)", ("fn", (0,), 1, var(1)))
        self.check("(fn a a)", ("fn", (), 0, var(0)))
        self.check("(fn (a) 1 2 a)", ("fn", (0,), None, ("seq", C1, ("seq", C2, var(0)))))
        self.check("(fn (if) if)", ("fn", (0,), None, var(0)))

    def test_let(self):
        self.check("(let () 1)", C1)
        self.check("(let ((a 1) (b 2)) a b)", ("let", 0, C1, ("let", 1, C2, ("seq", var(0), var(1)))))
        self.check("(let ((a 1)) (let ((a a) (b a)) a))",
                   ("let", 0, C1, ("let", 1, var(0), ("let", 2, var(0), var(1)))))
        self.check("(let ((a (fn (x) x)) (b (fn (y) y))) b)",
                   ("let", 0, ("fn", (1,), None, var(1)), ("let", 2, ("fn", (3,), None, var(3)), var(2))))

    def test_rec(self):
        self.check("(rec () 1 2)", ("seq", C1, C2))
        self.check("(rec ((a 1)) a)", ("let", 0, NOTHING, ("seq", ("set", 0, C1), var(0))))
        self.check("(rec ((a b) (b a)) a b)", (
            "let", 0, NOTHING, ("let", 1, NOTHING, ("seq", ("set", 0, var(1)), ("seq", ("set", 1, var(0)), (
                "seq", var(0), var(1)))))))

    def test_prims(self):
        self.check("(ask)", ("prim", "ask", ()))
        self.check("(put-first 1 2)", ("prim", "put first", (C1, C2)))
        self.check("(wind 1 2 3)", ("prim", "wind", (C1, C2, C3)))

    def test_calls(self):
        self.check("(1)", ("call", C1, ()))
        self.check("(() 2)", ("call", NOTHING, (C2,)))
        self.check("((fn (a) a) 1)", ("call", ("fn", (0,), None, var(0)), (C1,)))
        self.check("(let ((f 1)) (f 2 3))", ("let", 0, C1, ("call", var(0), (C2, C3))))
        self.check("((if 1 2 3))", ("call", ("if", C1, C2, C3), ()))

    def test_words_that_hide(self):
        self.check("(let ((if add)) (if 1 2))", (
            "let", 0, ("fn", (1, 2), None, ("prim", "add", (var(1), var(2)))), ("call", var(0), (C1, C2))))
        self.check("(fn (quote) '1)", ("fn", (0,), None, ("call", var(0), (C1,))))
        self.check("(fn (add) (add 1))", ("fn", (0,), None, ("call", var(0), (C1,))))
        self.check("(fn (define) (define 1))", ("fn", (0,), None, ("call", var(0), (C1,))))
        self.check("(macros ((m () ((_) 1))) (let ((m 2)) (m)))", ("let", 0, C2, ("call", var(0), ())))
        self.check("(let ((m 2)) (macros ((m () ((_) 1))) (m)))", ("let", 0, C2, C1))
        self.check("(macros ((if () ((_) 7))) (if))", ("const", 7))
        self.check("(macros ((m () ((_) 1))) (macros ((m () ((_) 2))) (m)))", C2)
        self.check("(fn (_ &) (_ &))", ("fn", (0, 1), None, ("call", var(0), (var(1),))))


class TopForms(unittest.TestCase):
    def check(self, text, term):
        found = core(text)
        self.assertEqual(repr(found), repr(term), text)
        self.assertIs(is_program(found), True)

    def test_expressions(self):
        self.check("1", C1)
        self.check("1 2 3", ("seq", C1, ("seq", C2, C3)))

    def test_defines(self):
        self.check("(define a 1)", ("let", 0, NOTHING, ("set", 0, C1)))
        self.check("(define a 1) a", ("let", 0, NOTHING, ("seq", ("set", 0, C1), var(0))))
        self.check("(define a b) (define b a)", (
            "let", 0, NOTHING, ("let", 1, NOTHING, ("seq", ("set", 0, var(1)), ("set", 1, var(0))))))
        self.check("(define (f x) (f x))", (
            "let", 0, NOTHING, ("set", 0, ("fn", (1,), None, ("call", var(0), (var(1),))))))
        self.check("(define (f) 1 2)", ("let", 0, NOTHING, ("set", 0, ("fn", (), None, ("seq", C1, C2)))))
        self.check("(define (f a . b) b)", ("let", 0, NOTHING, ("set", 0, ("fn", (1,), 2, var(2)))))
        self.check("(define (f . b) b)", ("let", 0, NOTHING, ("set", 0, ("fn", (), 1, var(1)))))

    def test_words_are_known_everywhere(self):
        self.check("a (define a 1)", ("let", 0, NOTHING, ("seq", var(0), ("set", 0, C1))))
        self.check("(set a 2) (define a 1)", ("let", 0, NOTHING, ("seq", ("set", 0, C2), ("set", 0, C1))))

    def test_seq(self):
        self.check("(seq (define a 1) (seq 2 (define b a)) 3)", (
            "let", 0, NOTHING, ("let", 1, NOTHING, ("seq", ("set", 0, C1), ("seq", C2, ("seq", ("set", 1, var(0)), C3))))))

    def test_macros(self):
        self.check("(macro m () ((_ a) (seq a a))) (m 1)", ("seq", C1, C1))
        self.check("(macro m () ((_ a) (define a 1))) (m x) x", ("let", 0, NOTHING, ("seq", ("set", 0, C1), var(0))))
        self.check("(macro m () ((_ a b) (seq (define a b) (define (b) a)))) (m x y)", (
            "let", 0, NOTHING, ("let", 1, NOTHING, ("seq", ("set", 0, var(1)), ("set", 1, ("fn", (), None, var(0)))))))

    def test_a_macro_that_gives_a_macro(self):
        self.check("(macro m () ((_ w v) (macro w () ((_) v)))) (m n 5) (n)", ("const", 5))
        self.check("(macro m () ((_ w) (macro w () ((_ x (& &)) (seq x (& &)))))) (m n) (n 1 2)", ("seq", C1, C2))

    def test_what_a_first_word_means_when_it_is_come_to(self):
        """A use ahead of its macro is an expression, and is expanded as one later."""
        self.check("(m 1) (macro m () ((_ a) (seq a a)))", ("seq", C1, C1))
        self.check("(seq 1 2) 3", ("seq", C1, ("seq", C2, C3)))

    def test_a_use_ahead_of_its_macro_gives_no_top_form(self):
        with self.assertRaises(ValueError):
            core("(m x) (macro m () ((_ a) (define a 1))) x")

    def test_literals_of_uses_at_the_top(self):
        """Definitions ahead alone count: x is not yet defined at the first use, and is the same word in both."""
        text = "(macro m (x) ((_ x) 1) ((_ y) 2)) (m x) (define x 5) (m x)"
        self.check(text, ("let", 0, NOTHING, ("seq", C1, ("seq", ("set", 0, ("const", 5)), C1))))

    def test_definitions_of_inserted_words(self):
        """What a template defines by a word of its own is seen by this use's words alone."""
        text = "(macro m () ((_ a) (seq (define t a) t))) (m 1) (m 2)"
        self.check(text, ("let", 0, NOTHING, ("let", 1, NOTHING, (
            "seq", ("set", 0, C1), ("seq", var(0), ("seq", ("set", 1, C2), var(1)))))))
        with self.assertRaises(ValueError):
            core("(macro m () ((_ a) (define t a))) (m 1) t")

    def test_inserted_words_may_be_base_words(self):
        """An alias of a base word is none: it may be defined, and is seen by its own template alone."""
        text = "(macro m () ((_ a) (seq (define if a) if))) (m 1) (if 1 2 3)"
        self.check(text, ("let", 0, NOTHING, ("seq", ("set", 0, C1), ("seq", var(0), ("if", C1, C2, C3)))))


class Hygiene(unittest.TestCase):
    def test_examples(self):
        text = "(macro my-or () ((_ a b) (let ((t a)) (if t t b)))) (define t 5) (my-or #no t)"
        self.assertEqual(ends(text), "5")
        text = "(macro swap! () ((_ a b) (let ((t a)) (set a b) (set b t)))) (let ((t 1) (u 2)) (swap! t u) (pair t u))"
        self.assertEqual(ends(text), "(2 . 1)")

    def test_inserted_words_mean_what_they_mean_at_the_macro(self):
        self.assertEqual(ends("(macro m () ((_ a) (if a 1 2))) (let ((if add)) (m #no))"), "2")
        self.assertEqual(ends("(define x 1) (macro m () ((_) x)) (let ((x 2)) (m))"), "1")
        self.assertEqual(ends("(let ((x 1)) (macros ((m () ((_) x))) (let ((x 2)) (m))))"), "1")
        self.assertEqual(ends("(macro m () ((_ a) (add a 1))) (fn (add) 1) ((fn (add) (m add)) 5)"), "6")
        self.assertEqual(ends("(macro m () ((_) (f 4))) (define (f x) (add x 1)) (let ((f 9)) (m))"), "5")

    def test_macros_within_one_another(self):
        text = """(macros ((even () ((_) #yes) ((_ a . b) (odd . b)))
                           (odd () ((_) #no) ((_ a . b) (even . b))))
                    (pair (even 1 2 3 4) (even 1 2 3)))"""
        self.assertEqual(ends(text), "(#yes . #no)")
        text = "(macros ((m () ((_) 1))) (macros ((n () ((_) (m)))) (macros ((m () ((_) 2))) (pair (m) (n)))))"
        self.assertEqual(ends(text), "(2 . 1)")

    def test_macro_makes_macro(self):
        text = """(macro def-add () ((_ name k) (macro name () ((_ x) (let ((k2 k)) (add x k2))))))
                  (def-add plus5 5) (let ((k2 1)) (plus5 k2))"""
        self.assertEqual(ends(text), "6")
        text = """(macro make () ((_ name) (macro name () ((_ a (& &)) (seq a (& &))))))
                  (make both) (both 1 2 3)"""
        self.assertEqual(ends(text), "3")

    def test_inserted_underscore(self):
        """_ and & are known by their letters, also where a template inserts them."""
        text = "(macro make () ((_ name) (macro name () ((_ _ x) x)))) (make second-of) (second-of 1 2)"
        self.assertEqual(ends(text), "2")

    def test_literals(self):
        cond = """(macro cond (else) ((_) 0) ((_ (else a)) a) ((_ (t a) r &) (if t a (cond r &))))"""
        self.assertEqual(ends(cond + "(cond (#no 1) (#yes 2) (else 3))"), "2")
        self.assertEqual(ends(cond + "(cond (#no 1) (#no 2) (else 3))"), "3")
        self.assertEqual(ends(cond + "(let ((else #no)) (cond (else 5) (#yes 6)))"), "6")
        self.assertEqual(ends(cond + "(let ((else #no)) (cond (else 5)))"), "0")
        self.assertEqual(ends(cond + "(define else #no) (cond (else 5))"), "5")

    def test_literals_that_are_bound(self):
        text = "(let ((x 1)) (macros ((m (x) ((_ x) 1) ((_ y) 2))) (pair (m x) (let ((x 2)) (m x)))))"
        self.assertEqual(ends(text), "(1 . 2)")
        text = "(macro is-if (if) ((_ if) #yes) ((_ a) #no)) (pair (is-if if) (let ((if 1)) (is-if if)))"
        self.assertEqual(ends(text), "(#yes . #no)")
        text = "(macro is-m (is-m) ((_ is-m) #yes) ((_ a) #no)) (pair (is-m is-m) (let ((is-m 1)) 2))"
        self.assertEqual(ends(text), "(#yes . 2)")

    def test_literals_of_inserted_words(self):
        """An alias that means nothing is like the word that it goes back to."""
        text = """(macro inner (key) ((_ key) #yes) ((_ a) #no))
                  (macro outer () ((_ a) (pair (inner key) (inner a))))
                  (pair (outer key) (outer other))"""
        self.assertEqual(ends(text), "((#yes . #yes) #yes . #no)")

    def test_a_template_binds_the_words_that_are_used(self):
        text = "(macro bind () ((_ x v b) (let ((x v)) b))) (bind t 5 (add t t))"
        self.assertEqual(ends(text), "10")
        text = "(macro m () ((_ x b) (fn (x) (let ((y 1)) b)))) (let ((y 7)) ((m y (add y y)) 4))"
        self.assertEqual(ends(text), "8")
        text = "(macro m () ((_ b) (let ((x 1)) b))) (let ((x 7)) (m x))"
        self.assertEqual(ends(text), "7")

    def test_quotes_go_back(self):
        self.assertEqual(ends("(macro m () ((_ a) '(x a y))) (m (1 t))"), "(x (1 t) y)")
        self.assertEqual(ends("(macro m () ((_) (let ((x 1)) 'x))) (m)"), "x")

    def test_tails_of_uses(self):
        self.assertEqual(ends("(macro m () ((_ . a) 'a)) (m 1 . 2)"), "(1 . 2)")
        self.assertEqual(ends("(macro m () ((_ . a) 'a)) (m . 2)"), "2")
        self.assertEqual(ends("(macro m () ((_ . a) 'a)) (m)"), "()")

    def test_loops(self):
        text = """(macro while () ((_ t b &) (rec ((loop (fn () (if t (seq b & (loop)) ())))) (loop))))
                  (define n 0) (define loop 10)
                  (while (below n 5) (set n (add n 1)) (set loop (less loop 1)))
                  (pair n loop)"""
        self.assertEqual(ends(text), "(5 . 5)")

    def test_a_macro_as_its_own_argument(self):
        self.assertEqual(ends("(macro m () ((_ a) (a 2)) ) (macro n () ((_ a) (add a a))) (m n)"), "4")
        text = "(macros ((m () ((_ f x) (f x)))) (macros ((f () ((_ x) (add x 1)))) (m f 5)))"
        self.assertEqual(ends(text), "6")

    def test_the_first_rule_that_matches(self):
        text = "(macro m () ((_ 1) 10) ((_ a) 20) ((_ 2) 30)) (pair (m 1) (m 2))"
        self.assertEqual(ends(text), "(10 . 20)")

    def test_aliases_are_new_for_each_use(self):
        text = "(macro m () ((_ a) (let ((x a)) (n x a)))) (macro n () ((_ p q) (let ((x 9)) (add p q)))) (m (m 1))"
        self.assertEqual(ends(text), "4")


class Orders(unittest.TestCase):
    TEXTS = (
        "(macro my-or () ((_ a b) (let ((t a)) (if t t b)))) (define t 5) (my-or (my-or #no #no) (my-or t (my-or 1 2)))",
        "(macro m () ((_ a) (let ((x a)) (add x (n x))))) (macro n () ((_ a) (let ((y a)) (times y y)))) (m (m (n 2)))",
        "(m 1) (macro m () ((_ a) (seq a (n a)))) (n (m 3)) (macro n () ((_ a) (let ((t a)) (pair t t))))",
        "(macros ((e () ((_) #yes) ((_ a . b) (o . b))) (o () ((_) #no) ((_ a . b) (e . b)))) (pair (e 1 2 3) (o 1 2)))",
    )

    def test_orders(self):
        source = random.Random(1)
        for text in self.TEXTS:
            first = core(text)
            self.assertIs(is_plain(first), True)
            for _ in range(10):
                order = tuple(source.randrange(100) for _ in range(source.randrange(30)))
                self.assertEqual(core(text, order), first)
            self.assertEqual(core(text, (10 ** 9,) * 1000), first)

    def test_uses(self):
        for text, many in zip(self.TEXTS, (4, 5, 5, 7)):
            self.assertEqual(uses_in(read_data(text)), many, text)
        self.assertEqual(uses_in(read_data("1")), 0)
        self.assertEqual(uses_in(read_data("(macro m () ((_ a) (define a 1))) (m x) (m y)")), 2)
        self.assertEqual(uses_in(read_data("(macro m () ((_) '(m))) (m)")), 1)


class PlacesBack(unittest.TestCase):
    def check(self, text, *pairs):
        data = read_data(text)
        found = places_back(data)
        self.assertEqual(tuple(place for place, _ in found), places_of(core(text)))
        self.assertEqual(found, pairs, text)

    def paths(self, text):
        return [path for _, path in places_back(read_data(text))]

    def test_leaves(self):
        self.check("5", ((), (0,)))
        self.check("(fn (a) a)", ((), (0,)), ((0,), (0, 2)))

    def test_forms(self):
        self.check("(if 1 2 (ask))", ((), (0,)), ((0,), (0, 1)), ((1,), (0, 2)), ((2,), (0, 3)))
        self.check("(1 2)", ((), (0,)), ((0,), (0, 0)), ((1,), (0, 1)))
        self.check("(add 1 2)", ((), (0,)), ((0,), (0, 1)), ((1,), (0, 2)))

    def test_prim_words(self):
        self.check("(if add 1 2)", ((), (0,)), ((0,), (0, 1)), ((0, 0), (0, 1)), ((0, 0, 0), (0, 1)), ((0, 0, 1), (0, 1)),
                   ((1,), (0, 2)), ((2,), (0, 3)))

    def test_quotes(self):
        self.assertEqual(self.paths("'(a (b) . c)"), [(0, 1, 0), (0, 1, 0), (0, 1, 1), (0, 1, 1, 0), (0, 1, 1, 0), (0, 1, 1),
                                                     (0, 1, 2)])
        self.assertEqual(self.paths("'(a)"), [(0, 1, 0), (0, 1, 0), (0, 1)])
        self.assertEqual(self.paths("'a"), [(0, 1)])
        self.assertEqual(self.paths("'()"), [(0, 1)])
        self.assertEqual(self.paths("'(())"), [(0, 1, 0), (0, 1, 0), (0, 1)])

    def test_lets(self):
        self.assertEqual(self.paths("(let ((a 1) (b 2)) a b)"), [(0,), (0, 1, 0, 1), (0,), (0, 1, 1, 1), (0, 2), (0, 2), (0, 3)])

    def test_rec(self):
        self.assertEqual(self.paths("(rec ((a 1) (b 2)) a b)"), [
            (0,), (0,), (0,), (0,), (0,), (0,), (0, 1, 0, 1), (0,), (0,), (0, 1, 1, 1), (0, 2), (0, 2), (0, 3)])

    def test_seqs(self):
        self.assertEqual(self.paths("(seq 1 2)"), [(0, 1), (0, 1), (0, 2)])
        self.assertEqual(self.paths("(fn () 1 (add 2 2) 3)"), [(0,), (0, 2), (0, 2), (0, 3), (0, 3), (0, 3, 1), (0, 3, 2), (0, 4)])
        self.assertEqual(self.paths("1 2 3"), [(0,), (0,), (1,), (1,), (2,)])

    def test_defines(self):
        self.assertEqual(self.paths("(define a 1) (define (f x) x) a"), [
            (0,), (0,), (1,), (1,), (0,), (0,), (0, 2), (1,), (1,), (1,), (1, 2), (2,)])

    def test_uses(self):
        text = "(macro m () ((_ a) (add a 1))) (m 5)"
        self.assertEqual(self.paths(text), [(1,), (1, 1), (1,)])
        text = "(macro m () ((_ a) (seq a 1))) (fn () (m 5) 6)"
        self.assertEqual(self.paths(text), [(1,), (1, 2), (1, 2, 1), (1, 2, 1), (1, 2), (1, 3)])
        text = "(macro m () ((_ a) (define a 1))) (m x) (m y)"
        self.assertEqual(self.paths(text), [(1,), (1,), (2,), (2,), (1,), (1,), (1,), (2,), (2,)])
        text = "(macro m () ((_ a) a)) (m (add 1 2)) 3"
        self.assertEqual(self.paths(text), [(1, 1), (1, 1), (1, 1, 1), (1, 1, 2), (2,)])
        text = "(fn () (m (add 1 2)) 3) (macro m () ((_ a) a))"
        self.assertEqual(self.paths(text), [(0,), (0, 2), (0, 2, 1), (0, 2, 1, 1), (0, 2, 1, 2), (0, 3)])

    def test_what_is_left_of_a_list(self):
        text = "(macro m () ((_ a . b) 'b)) (m 1 2 3)"
        self.assertEqual(self.paths(text), [(1, 2), (1, 2), (1, 3), (1, 3), (1,)])
        self.assertEqual(self.paths("(macro m () ((_ a . b) b)) (m 1 add 2 3)"), [(1,), (1, 3), (1, 4)])
        self.assertEqual(self.paths("(macro m () ((_ a . b) b)) (m 1)"), [(1,)])
        self.assertEqual(self.paths("(macro m () ((_ a . b) b)) (m 1 . 2)"), [(1, 2)])
        self.assertEqual(self.paths("(macro m () ((_ a & . b) b)) (m 1 1 . 2)"), [(1, 3)])
        self.assertEqual(self.paths("(macro m () ((_ (a . b)) 'b)) (m (1 2))"), [(1, 1, 1), (1, 1, 1), (1, 1)])

    def test_lists_that_go_on(self):
        text = "(macro m () ((_ . b) (add . b))) (m 1 2)"
        self.assertEqual(self.paths(text), [(1,), (1, 1), (1, 2)])

    def test_the_end_of_a_list_that_a_template_made(self):
        text = "(macro m () ((_ a) '(x . a))) (m (1 2))"
        self.assertEqual(self.paths(text), [(1,), (1,), (1, 1, 0), (1, 1, 0), (1, 1, 1), (1, 1, 1), (1,)])
        text = "(macro m () ((_ a) '(x . a))) (m ())"
        self.assertEqual(self.paths(text), [(1,), (1,), (1,)])
        text = "(macro m () ((_ a) '(x . a))) (m (1 . 2))"
        self.assertEqual(self.paths(text), [(1,), (1,), (1, 1, 0), (1, 1, 0), (1, 1, 1)])
        text = "(macro m () ((_ a) (n . a))) (macro n () ((_ b . c) c)) (m (1))"
        self.assertEqual(self.paths(text), [(2,)])

    def test_uses_in_uses(self):
        text = "(macro m () ((_ a) (n a 1))) (macro n () ((_ a b) (add a b))) (let () (m 5))"
        self.assertEqual(self.paths(text), [(2, 2), (2, 2, 1), (2, 2)])

    def test_datum_at_tells_what_stands_there(self):
        text = "(define (f x) (if x 'a (f #yes))) (f #no)"
        data = read_data(text)
        term = core(text)
        for place, path in places_back(data):
            part = term_at(term, place)
            if part[0] == "const" and path != (0,):
                self.assertEqual(datum_text(datum_at(data, path)), datum_text(part[1]))


class Bounds(unittest.TestCase):
    def test_nodes_and_depth_are_in_bounds(self):
        text = "(add " * 60 + "1" + " 1)" * 60
        self.assertEqual(node_count(core(text)), 121)

    def test_data_within_macros(self):
        self.assertEqual(ends("(macro m () ((_ (a b &) &) '((a . (b &)) &))) (m (1 2) (3) (4 5 6))"), "((1 2) (3) (4 5 6))")


if __name__ == "__main__":
    unittest.main()
