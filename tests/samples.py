"""Terms and programs for the tests of codes and machines."""

from keptrest.datatext import read_data
from keptrest.expander import expanded

WIDE = (20000, 20000)


def const(value):
    return ("const", value)


def var(number):
    return ("var", number)


def put(number, term):
    return ("set", number, term)


def iff(test, yes, no):
    return ("if", test, yes, no)


def fn(body, *params, rest=None):
    return ("fn", params, rest, body)


def let(number, term, body):
    return ("let", number, term, body)


def seq(one, other):
    return ("seq", one, other)


def call(callee, *terms):
    return ("call", callee, terms)


def prim(name, *terms):
    return ("prim", name, terms)


def program(text):
    return expanded(read_data(text), ())


# Each text with inputs; the runs of all but the last ones end.
TEXTS = {
    "constants": ("(add 1 (times 2 3))", ()),
    "truths": ("(if (same 1 #yes) 1 (if (same #yes #yes) (show #no) (show 0)))", ()),
    "loop": ("(define (loop n sum) (if (below 0 n) (loop (less n 1) (add sum n)) sum)) (loop 9 0)", ()),
    "recursion": ("(define (down n) (if (below 0 n) (add 1 (down (less n 1))) 0)) (down 7)", ()),
    "fib": ("(define (fib n) (if (below n 2) n (add (fib (less n 1)) (fib (less n 2))))) (show (fib 6))", ()),
    "build": ("(define (upto n l) (if (below 0 n) (upto (less n 1) (pair n l)) l)) (upto 6 ())", ()),
    "shared": ("(let ((p (pair 1 2))) (let ((q (pair p p))) (seq (put-first p 7) (show q) (pair q q))))", ()),
    "ring": ("(let ((p (pair 1 2))) (seq (put-second p p) (put-first p (pair p ())) (show p) (alike p (second p))))", ()),
    "boxes": ("(let ((n 0)) (let ((up (fn () (set n (add n 1)))) (get (fn () n))) (seq (up) (up) (show (get)) n)))", ()),
    "counter": ("(define (make n) (fn () (seq (set n (add n 1)) n))) (let ((a (make 1)) (b (make 5))) (seq (a) (b) (pair (a) (b))))", ()),
    "rests": ("(define (all . r) r) (define (some a b . r) (seq (set r (pair b r)) (pair a r))) (pair (all) (pair (some 1 2) (some 1 2 3 4)))", ()),
    "inputs": ("(define (sum s) (if (more) (sum (add s (ask))) s)) (sum 0)", (1, 2, 3, 4)),
    "out of inputs": ("(add (ask) (add (ask) (ask)))", (1, 2)),
    "keep": ("(add 1 (keep (fn (k) (add 10 (k 5)))))", ()),
    "again": ("(let ((k ()) (n 0)) (seq (keep (fn (c) (set k c))) (set n (add n 1)) (show n) (if (below n 4) (k 0) n)))", ()),
    "generator": ("(define next ()) (define (each l out) (if (is-pair l) (each (second l) (keep (fn (here) (seq (set next here) (out (first l)))))) (out ())))"
                  " (let ((v (keep (fn (out) (each '(5 6) out))))) (seq (show v) (if (is-nothing v) 0 (keep (fn (out) (next out))))))", ()),
    "wind": ("(wind (fn () (show 1)) (fn () (show 2)) (fn () (show 3)))", ()),
    "winds": ("(let ((k ()) (n 0)) (seq (wind (fn () (show 1)) (fn () (wind (fn () (show 2)) (fn () (keep (fn (c) (set k c)))) (fn () (show 3))))"
              " (fn () (show 4))) (set n (add n 1)) (if (below n 3) (k n) (show n))))", ()),
    "out of winds": ("(let ((k ())) (let ((v (keep (fn (out) (wind (fn () (show 'a)) (fn () (out (keep (fn (c) (seq (set k c) 1))))) (fn () (show 'b)))))))"
                     " (if (same v 2) (show v) (wind (fn () (show 'c)) (fn () (k 2)) (fn () (show 'd))))))", ()),
    "leaving within leaving": ("(keep (fn (out) (wind (fn () 0) (fn () (out 1)) (fn () (keep (fn (c) (c (out 2))))))))", ()),
    "kind": ("(add 1 (first 5))", ()),
    "zero": ("(show 1) (over 4 0)", ()),
    "range": ("(define (big n) (big (times n n))) (big 10)", ()),
    "count": ("(let ((f (fn (a) a))) (f 1 2))", ()),
    "count of kept": ("(keep (fn (k) (k)))", ()),
    "no function": ("(let ((f 5)) (f 1))", ()),
    "given up": ("(show 4) (add 1 (give-up 3))", ()),
    "tests": ("(define (f a b) (if (if a b #no) (if (if b #no a) 1 2) (if a 3 4))) (pair (f #yes #yes) (pair (f #yes #no) (f #no 1)))", ()),
    "endless": ("(define (loop) (loop)) (loop)", ()),
    "endless deep": ("(define (deep n) (add 1 (deep (pair n n)))) (deep 1)", ()),
    "endless pairs": ("(define (loop l) (loop (pair 1 ()))) (loop ())", ()),
}


def programs():
    """(NAME, PROGRAM, INPUTS) of all samples."""
    return [(name, program(text), inputs) for name, (text, inputs) in TEXTS.items()]


def changed(row, at, value):
    """A tuple with another item."""
    return (*row[:at], value, *row[at + 1:])


def with_row(code, point, row):
    return (changed(code[0], point, row), *code[1:])


def with_map(code, point, chart):
    return (code[0], changed(code[1], point, chart), *code[2:])


def with_entry(code, at, entry):
    return (*code[:2], changed(code[2], at, entry), code[3])
