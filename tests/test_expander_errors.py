import itertools
import unittest

from keptrest.core import depth_of, node_count
from keptrest.datatext import read_data
from keptrest.errors import (Arguments, BadForm, BadRule, BadWord, KeptrestError, NoForm, NoRule, TooGreat, TooMany,
                             TwiceDefined, Uneven, UnknownWord)
from keptrest.expander import expanded, is_clean, lot_of, places_back, uses_in, word_fates

ORDERS = [()] + list(itertools.product((0, 1, 2), repeat=3)) + [(5, 0, 7, 3, 1), (1000,) * 1000]


class Case(unittest.TestCase):
    def fault(self, text, kind, *fields):
        data = read_data(text)
        calls = [lambda order=order: expanded(data, order) for order in ORDERS[::5]]
        calls += [lambda: uses_in(data), lambda: places_back(data), lambda: word_fates(data), lambda: lot_of(data, ()),
                  lambda: is_clean(data, ())]
        for call in calls:
            with self.assertRaises(KeptrestError) as caught:
                call()
            error = caught.exception
            self.assertIs(type(error), kind, (text[:200], vars(error)))
            self.assertEqual(tuple(vars(error).values()), fields, text[:200])

    def form(self, text, *path):
        self.fault(text, BadForm, path)

    def right(self, text):
        return expanded(read_data(text), ())


class Shapes(Case):
    def test_forms(self):
        for form in ("(quote)", "(quote a b)", "(if)", "(if 1 2)", "(if 1 2 3 4)", "(seq)", "(set)", "(set a)", "(set a 1 2)",
                     "(set 5 1)", "(set (a) 1)", "(set () 1)", "(fn)", "(fn ())", "(fn (a))", "(fn 5 1)", "(fn #yes 1)",
                     "(fn (5) 1)", "(fn (a (b)) 1)", "(fn (a . 5) 1)", "(fn (()) 1)", "(fn (a . #no) 1)", "(let)", "(let ())",
                     "(let a 1)", "(let 5 1)", "(let (a) 1)", "(let ((a)) 1)", "(let ((a 1 2)) 1)", "(let ((5 1)) 1)",
                     "(let (((a) 1)) 1)", "(let ((a 1) . b) 1)", "(let ((a . 1)) 1)", "(let ((a 1 . 2)) 1)", "(let (()) 1)",
                     "(rec)", "(rec ())", "(rec (a) 1)", "(rec ((a)) 1)", "(rec ((a 1 2)) 1)", "(rec ((a 1) . b) 1)",
                     "(macros)", "(macros ())", "(macros a 1)", "(macros (a) 1)", "(macros ((a)) 1)", "(macros ((5 ())) 1)",
                     "(macros ((a () . b)) 1)", "(macros ((a ()) . b) 1)", "(macros (()) 1)"):
            self.form("(1 " + form + ")", 0, 1)
            self.form(form if form != "(seq)" else "(1 (seq))", *((0,) if form != "(seq)" else (0, 1)))

    def test_tails(self):
        for form in ("(quote . a)", "(quote a . b)", "(if 1 2 3 . 4)", "(seq 1 . 2)", "(set a 1 . 2)", "(fn () 1 . 2)",
                     "(let () 1 . 2)", "(rec () 1 . 2)", "(macros () 1 . 2)", "(add 1 . 2)", "(add 1 2 . 3)", "(1 . 2)",
                     "(1 2 . a)", "(a . b)", "(ask . 1)"):
            self.form("(1 2 " + form + ")", 0, 2)

    def test_define_and_macro_as_expressions(self):
        for form in ("(define a 1)", "(define)", "(macro m ())", "(macro)", "(define (f) 1)", "(define a 1 . 2)"):
            self.form("(1 " + form + ")", 0, 1)
            self.form("(fn () " + form + ")", 0, 2)

    def test_words_that_are_no_expressions(self):
        for word in ("quote", "if", "fn", "let", "rec", "set", "seq", "macros", "define", "macro"):
            self.form("(1 " + word + ")", 0, 1)
            self.form(word, 0)
            self.form("(let ((a 1)) (set " + word + " 1))", 0, 2, 1)
        self.form("(macro m () ((_) 1)) m", 1)
        self.form("(macro m () ((_) 1)) (1 m)", 1, 1)
        self.form("(macro m () ((_) 1)) (set m 1)", 1, 1)
        self.form("(set add 1)", 0, 1)
        self.form("(macros ((m ())) m)", 0, 2)

    def test_unlike_words(self):
        self.form("(fn (a b a) 1)", 0, 1, 2)
        self.form("(fn (a a a) 1)", 0, 1, 1)
        self.form("(fn (a b . a) 1)", 0, 1, 2)
        self.form("(let ((a 1) (b 2) (a 3)) 1)", 0, 1, 2, 0)
        self.form("(rec ((a 1) (a 3)) 1)", 0, 1, 1, 0)
        self.form("(macros ((a ()) (b ()) (b ())) 1)", 0, 1, 2, 0)
        self.form("(define (f a a) 1)", 0, 1, 2)
        self.form("(define (f a . a) 1)", 0, 1, 2)
        self.right("(define (f f) 1)")

    def test_unlike_keys(self):
        """A word and an inserted one are unlike keys."""
        self.right("(macro m () ((_ a) (fn (x a) x))) (m x)")
        self.form("(macro m () ((_ a) (fn (a x a) x))) (m y)", 1, 1)
        self.form("(macro m () ((_ a) (fn (x x) a))) (m y)", 1)

    def test_twelve(self):
        names = ["a%d" % k for k in range(13)]
        for many in (11, 12, 13):
            row = " ".join(names[:many])
            checks = (("(fn (%s) 1)" % row, (0,)), ("(fn (%s . r) 1)" % row, (0,)), ("(1 %s)" % ("1 " * many), (0,)),
                      ("(define (f %s) 1)" % row, (0,)))
            for text, path in checks:
                if many > 12:
                    self.form(text, *path)
                else:
                    self.right(text)
        self.form("(fn (%s a1) 1)" % " ".join(names), 0)

    def test_top_forms(self):
        for form in ("(define)", "(define a)", "(define a 1 2)", "(define 5 1)", "(define () 1)", "(define (f))", "(define ((f)) 1)",
                     "(define (5) 1)", "(define a . 1)", "(define a 1 . 2)", "(define (f) 1 . 2)", "(macro)", "(macro m)",
                     "(macro 5 ())", "(macro (m) ())", "(macro m () . 5)", "(macro m . x)", "(seq)", "(seq 1 . 2)", "(seq . 1)"):
            self.form("1 " + form, 1)
            self.form("(seq 1 " + form + ")", 0, 2)

    def test_params_of_define(self):
        """They are looked at with the expressions."""
        self.form("(define (f 5) 1)", 0)
        self.form("(define (f . 5) 1)", 0)
        self.form("(define (f a (b)) 1)", 0)
        self.form("1 (seq (define (f a . 5) 1))", 1, 1)
        self.fault("(define (f 5) 1) (macro if ())", BadWord, "if")
        self.fault("x (define (f 5) 1)", UnknownWord, "x", (0,))
        self.form("(define (f 5) 1) x", 0)
        self.form("(define (f a a) 1) (macro m ()) (1 (m))", 0, 1, 2)


class Words(Case):
    def test_no_form(self):
        for text in ("", "(macro m ())", "(macro m () ((_) (macro n ()))) (m)", "(seq (macro m ()))"):
            self.fault(text, NoForm)

    def test_bad_words(self):
        for word in ("quote", "if", "fn", "let", "rec", "set", "seq", "macros", "define", "macro", "add", "is-number", "give-up",
                     "put-first", "_", "&", "keep"):
            self.fault("1 (define " + word + " 1)", BadWord, word)
            self.fault("1 (define (" + word + ") 1)", BadWord, word)
            self.fault("1 (macro " + word + " ())", BadWord, word)
        self.right("(define is 1) (define put-third 2) (define give_up 3)")

    def test_bad_words_of_templates(self):
        self.right("(macro m () ((_) (define add 1))) (m)")
        self.fault("(macro m () ((_) (define _ 1))) (m)", BadWord, "_")
        self.fault("(macro m () ((_) (define (& &) 1))) (m)", BadWord, "&")
        self.fault("(macro m () ((_ a) (define a 1))) (m add)", BadWord, "add")

    def test_twice(self):
        self.fault("(define a 1) (define a 2)", TwiceDefined, "a")
        self.fault("(define a 1) (macro a ())", TwiceDefined, "a")
        self.fault("(macro a ()) (define (a) 2)", TwiceDefined, "a")
        self.fault("(macro a ()) (macro a ())", TwiceDefined, "a")
        self.fault("(macro m () ((_) (seq (define t 1) (define t 2)))) (m)", TwiceDefined, "t")
        self.right("(macro m () ((_ a) (seq (define t 1) (define a 2)))) (m t)")

    def test_unknown(self):
        self.fault("x", UnknownWord, "x", (0,))
        self.fault("(set x 1)", UnknownWord, "x", (0, 1))
        self.fault("(1 (x 2))", UnknownWord, "x", (0, 1, 0))
        self.fault("(fn (a) (fn (b) c))", UnknownWord, "c", (0, 2, 2))
        self.fault("(let ((a a)) 1)", UnknownWord, "a", (0, 1, 0, 1))
        self.fault("_", UnknownWord, "_", (0,))
        self.fault("&", UnknownWord, "&", (0,))
        self.fault("(macro m () ((_) (add x 1))) (1 (m))", UnknownWord, "x", (1, 1))
        self.fault("(macro m () ((_ a) (n a y))) (macro n () ((_ a b) (add a b))) (m 1)", UnknownWord, "y", (2,))
        self.fault("(macro m () ((_ a) (n a y))) (macro n () ((_ a b) (add a b))) (m z)", UnknownWord, "z", (2, 1))
        self.fault("(macro m () ((_ a) (set x a))) (m 1)", UnknownWord, "x", (1,))

    def test_arguments(self):
        for text, word, path in (("(add)", "add", (0,)), ("(add 1)", "add", (0,)), ("(1 (add 1 2 3))", "add", (0, 1)),
                                 ("(ask 1)", "ask", (0,)), ("(put-first 1)", "put-first", (0,)), ("(wind 1 2)", "wind", (0,)),
                                 ("(is-pair" + " 1" * 13 + ")", "is-pair", (0,))):
            self.fault(text, Arguments, word, path)
        self.fault("(macro m () ((_ a) (less a))) (1 (m 2))", Arguments, "less", (1, 1))
        self.fault("(add x)", Arguments, "add", (0,))


class Rules(Case):
    def rule(self, text, *path):
        self.fault("(macro m " + text + ") 1", BadRule, (0,) + path)
        inner = (0, 1, 0) + tuple(step - 1 if k == 0 else step for k, step in enumerate(path))
        self.fault("(macros ((m " + text + ")) 1)", BadRule, inner)

    def test_literals(self):
        self.rule("a", 2)
        self.rule("5", 2)
        self.rule("(a 5)", 2, 1)
        self.rule("(a (b))", 2, 1)
        self.rule("(a a)", 2, 1)
        self.rule("(a b a 5)", 2, 2)
        self.rule("(_)", 2, 0)
        self.rule("(a &)", 2, 1)
        self.rule("(a . b)", 2, 1)
        self.rule("(a . 5)", 2, 1)
        self.rule("(a 5 . b)", 2, 1)

    def test_rules(self):
        self.rule("() a", 3)
        self.rule("() ()", 3)
        self.rule("() ((_))", 3)
        self.rule("() ((_) 1 2)", 3)
        self.rule("() ((_) 1 . 2)", 3)
        self.rule("() ((_) . 2)", 3)
        self.rule("() ((_) 1) 5", 4)

    def test_patterns(self):
        self.rule("() (a 1)", 3, 0)
        self.rule("() (() 1)", 3, 0)
        self.rule("() ((_ &) 1)", 3, 0, 1)
        self.rule("() ((_ a a) 1)", 3, 0, 2)
        self.rule("() ((_ a . a) 1)", 3, 0, 2)
        self.rule("() ((_ 1) 1) ((_ (a & b &)) 1)", 4, 0, 1, 3)
        self.rule("(b) ((_ b b a (& b)) 1)", 3, 0, 4, 0)

    def test_templates(self):
        self.rule("() ((_ a &) a)", 3, 1)
        self.rule("() ((_ a &) (x a))", 3, 1, 1)
        self.rule("() ((_ a &) (x &))", 3, 1, 0)
        self.rule("() ((_ a) (& a x))", 3, 1, 0)
        self.rule("() ((_ a) (x . &))", 3, 1, 1)
        self.rule("() ((_ a) &)", 3, 1)

    def test_the_first_in_writing_order(self):
        self.rule("(5) a", 2, 0)
        self.rule("(a) a ((_ &) 1)", 3)
        self.rule("() ((_ &) &) a", 3, 0, 1)
        self.rule("() ((_) &) a", 3, 1)

    def test_macros_that_templates_make(self):
        self.fault("(macro m () ((_ a) (macro a () 5))) (m n) 1", BadRule, (1,))
        self.fault("(macro m () ((_ a) (macro n () a))) (m 5) 1", BadRule, (1, 1))
        self.fault("(macro m () ((_ a) (macro n () ((_ a a) 1)))) (m x) 1", BadRule, (1, 1))

    def test_no_rule(self):
        self.fault("(macro m ()) (m)", NoRule, (1,))
        self.fault("(macro m () ((_ a) 1)) (1 (m))", NoRule, (1, 1))
        self.fault("(macro m () ((_ a) 1) ((_ a b) (m))) (1 (m 1 2))", NoRule, (1, 1))
        self.fault("(macro m () ((_ a) 1)) (m . 1)", NoRule, (1,))
        self.fault("(macros ((m ())) (m 1))", NoRule, (0, 2))

    def test_uneven(self):
        rule = "(macro m () ((_ (a &) (b &)) (seq (add a b) &))) "
        self.right(rule + "(m (1 2) (3 4))")
        self.fault(rule + "(1 (m (1 2) (3)))", Uneven, (1, 1))
        self.fault(rule + "(m () (3))", Uneven, (1,))
        self.fault(rule + "(macro n () ((_ a) (m a (1)))) (1 (n ()))", Uneven, (2, 1))


class Order(Case):
    def test_top_forms_come_first(self):
        self.fault("(x) (define if 1)", BadWord, "if")
        self.fault("(add) (macro m () 5)", BadRule, (1, 3))
        self.fault("(add) (macro m () ((_ 1) 1)) (m 2)", NoRule, (2,))
        self.form("x (define a)", 1)
        self.fault("(macro m () ((_) x)) (m) (define a 1) (define a 2)", TwiceDefined, "a")

    def test_top_forms_in_their_order(self):
        self.fault("(define if 1) (define a)", BadWord, "if")
        self.form("(define a) (define if 1)", 0)
        self.fault("(macro m () 5) (define if 1)", BadRule, (0, 3))
        self.form("(seq (define a) (define if 1)) (seq)", 0, 1)
        self.form("(define if)", 0)
        self.fault("(define if 5) (define (if x x) 5)", BadWord, "if")

    def test_at_one_form(self):
        self.fault("(macro if () 5)", BadWord, "if")
        self.fault("(macro a ()) (macro a () 5)", TwiceDefined, "a")
        self.form("(macro if)", 0)
        self.form("(define add 1 2)", 0)

    def test_no_form_ahead_of_nothing(self):
        self.fault("(macro m () ((_ 1) 2)) (m 3)", NoRule, (1,))

    def test_expressions_in_writing_order(self):
        self.fault("(if x y z)", UnknownWord, "x", (0, 1))
        self.fault("(1 (add) x)", Arguments, "add", (0, 1))
        self.fault("(1 x (add))", UnknownWord, "x", (0, 1))
        self.form("(let ((a (if)) (b x)) y)", 0, 1, 0, 1)
        self.fault("(let ((a x) (b (if))) y)", UnknownWord, "x", (0, 1, 0, 1))
        self.fault("(let ((a 1)) (set x (if)))", UnknownWord, "x", (0, 2, 1))
        self.fault("(define a x) (if)", UnknownWord, "x", (0, 2))
        self.form("(define a (if)) x", 0, 2)
        self.fault("(rec ((a x)) (if))", UnknownWord, "x", (0, 1, 0, 1))

    def test_shapes_ahead_of_parts(self):
        self.form("(if x y)", 0)
        self.form("(x . y)", 0)
        self.form("(x" + " y" * 13 + ")", 0)
        self.form("(let ((a x) (a y)) z)", 0, 1, 1, 0)
        self.form("(let ((a x) (b)) z)", 0)
        self.fault("(add x)", Arguments, "add", (0,))
        self.form("(add x . y)", 0)
        self.form("(fn (a a) x)", 0, 1, 1)
        self.form("(macros ((m 5) (m 6)) x)", 0, 1, 1, 0)
        self.form("(set 5 x)", 0)

    def test_uses_when_they_are_come_to(self):
        head = "(macro m () ((_ 1) x) ((_ 2) 5)) "
        self.fault(head + "(pair (m 1) (m 3))", UnknownWord, "x", (1, 1))
        self.fault(head + "(pair (m 3) (m 1))", NoRule, (1, 1))
        self.fault(head + "(if (m 2) (m 1) (m 3))", UnknownWord, "x", (1, 2))
        self.fault(head + "(if (m 2) (m 3) y)", NoRule, (1, 2))
        self.fault(head + "(if y (m 3) (m 3))", UnknownWord, "y", (1, 1))

    def test_too_great_comes_last(self):
        many = "(seq " + "1 " * 250 + ")"
        self.fault("(pair " + many + " x)", UnknownWord, "x", (0, 2))
        self.fault("(pair " + many + " 1)", TooGreat, "nodes")
        deep = "(is-pair " * 61 + "1" + ")" * 61
        self.fault(deep, TooGreat, "depth")
        self.fault("(pair " + many + deep + ")", TooGreat, "nodes")


class Bounds(Case):
    def test_four_hundred(self):
        block = "(1" + " 1" * 11 + ")"
        wide = "(1" + (" " + block) * 11 + ")"
        text = "(pair " + wide + " " + wide + ")"
        self.assertEqual(node_count(self.right(text)), 1 + 2 * (1 + 1 + 11 * 13))
        more, rest = divmod(399 - 291, 14)
        for _ in range(more):
            text = "(pair " + block + " " + text + ")"
        for _ in range(rest):
            text = "(is-pair " + text + ")"
        self.assertEqual(node_count(self.right(text)), 399)
        self.assertEqual(node_count(self.right("(is-pair " + text + ")")), 400)
        self.fault("(pair 1 " + text + ")", TooGreat, "nodes")

    def test_depth(self):
        for deep, good in ((59, True), (60, True), (61, False)):
            text = "(is-pair " * deep + "1" + ")" * deep
            if good:
                self.assertEqual(depth_of(self.right(text)), deep)
            else:
                self.fault(text, TooGreat, "depth")
        self.fault("(seq " + "1 " * 62 + ")", TooGreat, "depth")
        self.assertEqual(depth_of(self.right("(seq " + "1 " * 61 + ")")), 60)

    def uses(self, many):
        """A row of so many uses at once, and nothing left of them."""
        head = "(macro m () ((_ a . b) (m . b)) ((_) 1)) "
        return head + "(m" + " 1" * (many - 1) + ")"

    def test_uses(self):
        self.assertEqual(uses_in(read_data(self.uses(1000))), 1000)
        self.fault(self.uses(1001), TooMany, "uses")
        self.fault("(macro m () ((_) (m))) (m)", TooMany, "uses")
        self.fault("(macro m () ((_) (m))) (let () (m))", TooMany, "uses")
        self.fault(self.uses(1000) + " (1 (m))", TooMany, "uses")
        self.fault(self.uses(998) + " (1 (m) (n)) (macro n ())", NoRule, (2, 2))
        self.fault(self.uses(999) + " (1 (m) (n)) (macro n ())", TooMany, "uses")
        self.fault(self.uses(1000) + " (1 (n)) (macro n ())", TooMany, "uses")

    def test_data(self):
        """A list of n items has n + 1 data; a tail that is not () is one more."""
        head = "(macro m () ((_ a &) (quote-1 a &))) (macro quote-1 () ((_ . a) 1)) "
        self.assertEqual(self.right(head + "(1 (m" + " 1" * 4998 + "))"), ("call", ("const", 1), (("const", 1),)))
        self.fault(head + "(1 (m" + " 1" * 4999 + "))", TooGreat, "data")
        tail = "(macro m () ((_ a & . b) (n a & . b))) (macro n () ((_ . a) 1)) "
        self.right(tail + "(1 (m" + " 1" * 4997 + " . 5))")
        self.fault(tail + "(1 (m" + " 1" * 4998 + " . 5))", TooGreat, "data")
        nested = "(macro m () ((_ a &) (n (a) & . 5))) (macro n () ((_ . a) 1)) "
        self.right(nested + "(1 (m" + " 1" * 2498 + "))")
        self.fault(nested + "(1 (m" + " 1" * 2499 + "))", TooGreat, "data")

    def test_data_of_the_use_itself_do_not_count(self):
        self.right("(macro m () ((_ . a) 1)) (1 (m" + " 1" * 9000 + "))")

    def test_lists(self):
        """The path of the use does not count: what it gives is measured alone."""
        head = "(macro m () ((_ a) (n (a)))) (macro n () ((_ a) 1)) "
        deep = "(" * 96 + ")" * 96
        self.right(head + "(m " + "(" * 97 + ")" * 97 + ")")
        grow = "(macro m () ((_ a) (n ((((a))))))) (macro n () ((_ a) 1)) "
        for many, good in ((94, True), (95, True), (96, False)):
            inner = "(" * many + "x" + ")" * many
            text = grow + "(m " + inner + ")"
            if good:
                self.right(text)
            else:
                self.fault(text, TooGreat, "data")
        self.right(head + "(m " + deep + ")")
        for inner in ("5", "()", "x", "#no"):
            self.right(grow + "(m " + "(" * 95 + inner + ")" * 95 + ")")
            self.fault(grow + "(m " + "(" * 96 + inner + ")" * 96 + ")", TooGreat, "data")

    def test_data_when_they_are_given(self):
        """The use is counted and matched ahead; what it gives is not gone through."""
        grow = "(macro m () ((_ a) (x ((((a)))) (if)))) "
        self.fault(grow + "(m " + "(" * 97 + "5" + ")" * 97 + ")", TooGreat, "data")


if __name__ == "__main__":
    unittest.main()
