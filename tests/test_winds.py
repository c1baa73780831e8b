import unittest

from keptrest.datatext import read_data
from keptrest.expander import expanded
from keptrest.meaning import run
from keptrest.winds import wind_turns, winds_of, winds_way

WIDE = (1000, 1000)


def thing(address):
    return ("thing", address)


def core(text):
    return expanded(read_data(text), ())


def told(text, inputs=(), steps=5000):
    ending, output, count, _ = run(core(text), inputs, WIDE, steps)
    return ending, output


def turns(text, steps=5000):
    return wind_turns(core(text), (), WIDE, steps)


def names(found):
    """Turns with the winds numbered as they come first."""
    order = []
    for _, address in found:
        if address not in order:
            order.append(address)
    return tuple((word, order.index(address)) for word, address in found)


class Ways(unittest.TestCase):
    #  0 <- 1 <- 3, 0 <- 2, 4 alone
    STORE = (("wind", (), 0, 0, ()), ("wind", (), 0, 0, thing(0)), ("wind", (), 0, 0, thing(0)),
             ("wind", (), 0, 0, thing(1)), ("wind", (), 0, 0, ()))

    def test_winds_of(self):
        for winds, addresses in (((), ()), (thing(0), (0,)), (thing(3), (3, 1, 0)), (thing(2), (2, 0)), (thing(4), (4,))):
            self.assertEqual(winds_of(self.STORE, winds), addresses)

    def test_winds_way(self):
        for one, other, way in (((), (), ((), ())), (thing(3), thing(3), ((), ())), (thing(3), (), ((3, 1, 0), ())),
                                ((), thing(3), ((), (0, 1, 3))), (thing(3), thing(2), ((3, 1), (2,))),
                                (thing(2), thing(3), ((2,), (1, 3))), (thing(1), thing(3), ((), (3,))),
                                (thing(3), thing(1), ((3,), ())), (thing(3), thing(4), ((3, 1, 0), (4,)))):
            self.assertEqual(winds_way(self.STORE, one, other), way)


class Turns(unittest.TestCase):
    def test_example(self):
        def shows(number):
            return ("fn", (), None, ("seq", ("prim", "show", (("const", number),)), ("const", ())))
        program = ("prim", "wind", (shows(1), shows(2), shows(3)))
        ending, output, count, _ = run(program, (), WIDE, 1000)
        self.assertEqual((ending, output), (("end", "()"), ("1", "2", "3")))
        found = wind_turns(program, (), WIDE, 1000)
        self.assertEqual(names(found), (("in", 0), ("out", 0)))
        for steps in range(count + 1):
            self.assertEqual(wind_turns(program, (), WIDE, steps), found[:len(wind_turns(program, (), WIDE, steps))])
        self.assertEqual(wind_turns(program, (), WIDE, 0), ())

    def test_none(self):
        self.assertEqual(turns("(add 1 2)"), ())

    def test_the_value_of_a_wind(self):
        self.assertEqual(told("(wind (fn () 1) (fn () 2) (fn () 3))"), (("end", "2"), ()))

    def test_winds_in_one_another(self):
        text = "(wind (fn () 1) (fn () (wind (fn () 1) (fn () 2) (fn () 3))) (fn () 3))"
        self.assertEqual(names(turns(text)), (("in", 0), ("in", 1), ("out", 1), ("out", 0)))

    def test_out_of_a_body(self):
        text = """(keep (fn (out) (wind (fn () (show 1)) (fn () (seq (show 2) (out 5) (show 9))) (fn () (show 3)))))"""
        self.assertEqual(told(text), (("end", "5"), ("1", "2", "3")))
        self.assertEqual(names(turns(text)), (("in", 0), ("out", 0)))

    def test_into_a_body_again(self):
        text = """(define k ()) (define n 0)
        (wind (fn () (show 1)) (fn () (seq (keep (fn (c) (set k c))) (show 2))) (fn () (show 3)))
        (set n (add n 1))
        (if (below n 3) (k 7) n)"""
        self.assertEqual(told(text), (("end", "3"), ("1", "2", "3") * 3))
        self.assertEqual(names(turns(text)), (("in", 0), ("out", 0)) * 3)

    def test_from_one_body_into_another(self):
        text = """(define k ()) (define n 0)
        (define (around x body) (wind (fn () (show (pair x 1))) body (fn () (show (pair x 2)))))
        (around 'a (fn () (around 'b (fn () (keep (fn (c) (set k c)))))))
        (set n (add n 1))
        (if (below n 2) (around 'c (fn () (around 'd (fn () (k 7))))) n)"""
        shown = ("(a . 1)", "(b . 1)", "(b . 2)", "(a . 2)", "(c . 1)", "(d . 1)", "(d . 2)", "(c . 2)", "(a . 1)",
                 "(b . 1)", "(b . 2)", "(a . 2)")
        self.assertEqual(told(text), (("end", "2"), shown))
        words = (("in", 0), ("in", 1), ("out", 1), ("out", 0), ("in", 2), ("in", 3), ("out", 3), ("out", 2), ("in", 0),
                 ("in", 1), ("out", 1), ("out", 0))
        self.assertEqual(names(turns(text)), words)

    def test_within_one_body_nothing_comes_or_goes(self):
        text = """(wind (fn () (show 1)) (fn () (add 1 (keep (fn (k) (add 5 (k 1)))))) (fn () (show 3)))"""
        self.assertEqual(told(text), (("end", "2"), ("1", "3")))

    def test_out_of_a_before(self):
        text = "(keep (fn (out) (wind (fn () (seq (show 1) (out 5))) (fn () (show 2)) (fn () (show 3)))))"
        self.assertEqual(told(text), (("end", "5"), ("1",)))
        self.assertEqual(turns(text), ())

    def test_out_of_an_after(self):
        text = "(keep (fn (out) (wind (fn () (show 1)) (fn () (show 2)) (fn () (seq (show 3) (out 5))))))"
        self.assertEqual(told(text), (("end", "5"), ("1", "2", "3")))
        self.assertEqual(names(turns(text)), (("in", 0), ("out", 0)))

    def test_out_of_an_after_while_leaving(self):
        """The AFTER that is called on the way enters a continuation itself: the first way is given up."""
        text = """(keep (fn (far) (seq
          (keep (fn (near)
            (wind (fn () (show 1)) (fn () (far 5)) (fn () (seq (show 3) (near 6))))))
          (show 4) 7)))"""
        self.assertEqual(told(text), (("end", "7"), ("1", "3", "4")))
        self.assertEqual(names(turns(text)), (("in", 0), ("out", 0)))

    def test_out_of_a_before_while_entering(self):
        text = """(define k ()) (define n 0)
        (keep (fn (out)
          (seq (wind (fn () (seq (show 1) (if (below 0 n) (out 5) 0)))
                     (fn () (keep (fn (c) (set k c))))
                     (fn () (show 3)))
               (set n (add n 1))
               (k 0))))
        (show 8)
        n"""
        self.assertEqual(told(text), (("end", "1"), ("1", "3", "1", "8")))
        self.assertEqual(names(turns(text)), (("in", 0), ("out", 0)))

    def test_kept_in_an_after(self):
        """A continuation that was kept in an AFTER belongs to the winds around."""
        text = """(define k ()) (define n 0)
        (wind (fn () (show 1)) (fn () (show 2)) (fn () (seq (keep (fn (c) (set k c))) (show 3))))
        (set n (add n 1))
        (if (below n 3) (k 0) n)"""
        self.assertEqual(told(text), (("end", "3"), ("1", "2", "3", "3", "3")))
        self.assertEqual(names(turns(text)), (("in", 0), ("out", 0)))

    def test_kept_in_a_before_makes_another_wind(self):
        text = """(define k ()) (define n 0)
        (wind (fn () (keep (fn (c) (set k c)))) (fn () (show 2)) (fn () (show 3)))
        (set n (add n 1))
        (if (below n 3) (k 0) n)"""
        self.assertEqual(told(text), (("end", "3"), ("2", "3") * 3))
        self.assertEqual(names(turns(text)), (("in", 0), ("out", 0), ("in", 1), ("out", 1), ("in", 2), ("out", 2)))

    def test_the_step_that_ends_has_no_turns(self):
        text = "(wind (fn () 1) 5 (fn () 3))"
        self.assertEqual(told(text)[0], ("trap", "no function", ()))
        self.assertEqual(turns(text), ())
        text = "(wind (fn () 1) (fn () 2) 5)"
        self.assertEqual(told(text)[0], ("trap", "no function", ()))
        self.assertEqual(names(turns(text)), (("in", 0),))
        text = "(wind (fn () 1) (fn () 2) (fn (x) 3))"
        self.assertEqual(told(text)[0], ("trap", "count", ()))
        self.assertEqual(names(turns(text)), (("in", 0),))

    def test_befores_and_afters_with_winds(self):
        text = """(wind (fn () (wind (fn () (show 1)) (fn () (show 2)) (fn () (show 3))))
                        (fn () (show 4))
                        (fn () (wind (fn () (show 5)) (fn () (show 6)) (fn () (show 7)))))"""
        self.assertEqual(told(text)[1], ("1", "2", "3", "4", "5", "6", "7"))
        self.assertEqual(names(turns(text)), (("in", 0), ("out", 0), ("in", 1), ("out", 1), ("in", 2), ("out", 2)))


if __name__ == "__main__":
    unittest.main()
